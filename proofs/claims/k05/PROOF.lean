import PyProof.Rows.All
import Wide.All
import OpenK.AllK
import Wide.FinOn
import Lean
import PyProof.EqAt
import PyProof.EqKinds
import PyProof.TupleCall
import PySem.Challenge.RW_dampfield_k05_layings_of_parts
set_option Elab.async false
set_option linter.all false
set_option maxRecDepth 100000
namespace L2
open PySem PySem.Spec PyProof.Rows
abbrev Key:=Sum Int Str
def xM:Key->Value->Bool
 |.inl k,v=>Value.isInt k v
 |.inr x,v=>Value.isStrOf x v
def Y7(w:World):Key->Int
 |.inl k=>hashInt k
 |.inr x=>hashStr w x
theorem cY:∀ {k:Key} {v:Value},xM k v=true->(∃ i t,k=Sum.inl i/\v=Value.int i t)\/(∃ x t,k=Sum.inr x/\v=Value.str x t)
 |.inl i,v,h=>by
  obtain⟨t,e⟩:=Value.isInt_shape (k:=i) (v:=v) h
  exact .inl ⟨i,t,rfl,e⟩
 |.inr x,v,h=>by
  obtain⟨t,e⟩:=Value.isStrOf_shape (x:=x) (v:=v) h
  exact .inr ⟨x,t,rfl,e⟩
theorem Ia(i:Int)(t:Tok):xM (.inl i) (.int i t)=true:=by simp[xM,Value.isInt]
theorem Ib(x:Str)(t:Tok):xM (.inr x) (.str x t)=true:=by simp[xM,Value.isStrOf]
theorem Tf(a b:Int):decide ((Sum.inl a:Key)=Sum.inl b)=(a==b):=by
 by_cases e:a=b
 ·subst e;simp
 ·have h:¬(Sum.inl a:Key)=Sum.inl b:=fun q=>e (Sum.inl.inj q)
  rw[decide_eq_false h]
  exact(beq_eq_false_iff_ne.mpr e).symm
theorem Tj(a b:Str):decide ((Sum.inr a:Key)=Sum.inr b)=decide (a=b):=by
 by_cases e:a=b
 ·subst e;simp
 ·have h:¬(Sum.inr a:Key)=Sum.inr b:=fun q=>e (Sum.inr.inj q)
  rw[decide_eq_false h,decide_eq_false e]
theorem Tg(a:Int)(b:Str):decide ((Sum.inl a:Key)=Sum.inr b)=false:=decide_eq_false (fun q=>nomatch q)
theorem Ti(a:Str)(b:Int):decide ((Sum.inr a:Key)=Sum.inl b)=false:=decide_eq_false (fun q=>nomatch q)
def dR(prog:Program)(w:World):PySem.KeyKind prog w Key where
 is:=xM
 hash:=Y7 w
 inj:=fun v a b ha hb=>by
  rcases cY ha with⟨i,t,rfl,rfl⟩|⟨x,t,rfl,rfl⟩
  ·rcases cY hb with⟨j,u,rfl,e⟩|⟨y,u,rfl,e⟩
   ·injection e with e1 _;rw[e1]
   ·exact nomatch e
  ·rcases cY hb with⟨j,u,rfl,e⟩|⟨y,u,rfl,e⟩
   ·exact nomatch e
   ·injection e with e1 _;rw[e1]
 byValue:=fun k v h=>by
  rcases cY h with⟨i,t,rfl,rfl⟩|⟨x,t,rfl,rfl⟩<;>rfl
 pyHash:=fun hv h=>by
  rcases cY hv with⟨i,t,rfl,rfl⟩|⟨x,t,rfl,rfl⟩
  ·exact wpAny_pyHash_int h
  ·exact wpAny_pyHash_str h
 eqBool:=fun hu hv h=>by
  rcases cY hu with⟨i,t,rfl,rfl⟩|⟨x,t,rfl,rfl⟩
  ·rcases cY hv with⟨j,u,rfl,rfl⟩|⟨y,u,rfl,rfl⟩
   ·rw[Tf] at h;exact wpAny_eqBool_int h
   ·rw[Tg] at h;exact SeqAt.EqAt.int_str i t y u _ _ _ _ h
  ·rcases cY hv with⟨j,u,rfl,rfl⟩|⟨y,u,rfl,rfl⟩
   ·rw[Ti] at h;exact SeqAt.EqAt.str_int x t j u _ _ _ _ h
   ·rw[Tj] at h;exact wpAny_eqBool_str h
 «strs»:=fun k x t v h=>by
  rcases cY h with⟨i,u,rfl,e⟩|⟨y,u,rfl,e⟩
  ·exact nomatch e
  ·injection e with e1 _
   subst e1
   cases v<;>rfl
theorem Ao(prog:Program)(w:World)(i:Int)(t:Tok):(dR prog w).is (.inl i) (.int i t)=true:=Ia i t
theorem Aq(prog:Program)(w:World)(x:Str)(t:Tok):(dR prog w).is (.inr x) (.str x t)=true:=Ib x t
end L2
namespace L2
open PySem PySem.Spec PyProof.Rows
inductive V where
 |non|bl (b:Bool)|int (i:Int)|str (x:Str)|byt (b:Array UInt8)|flt (b:UInt64)|ref (a:Addr)|ty (n:String)
 deriving DecidableEq
def RelV:V->Value->Prop
 |.non,u=>u=Value.none
 |.bl b,u=>u=Value.bool b
 |.int i,u=>∃ t,u=Value.int i t
 |.str x,u=>∃ t,u=Value.str x t
 |.byt b,u=>∃ t,u=Value.bytes b t
 |.flt b,u=>∃ t,u=Value.float b t
 |.ref a,u=>u=Value.ref a
 |.ty n,u=>u=Value.type n
abbrev Vals:List V->List Value->Prop:=Paired RelV
theorem Vals.length{xs:List V}{us:List Value}(r:Vals xs us):xs.length=us.length:=Paired.length r
theorem Vals.get:∀ {xs:List V} {us:List Value} {i:Nat} {x:V},Vals xs us->xs[i]?=some x->∃ u,us[i]?=some u/\RelV x u
 |_,_,_,_,.nil,e=>by simp at e
 |_,_,0,_,.cons r _,e=>by simp at e;subst e;exact⟨_,rfl,r⟩
 |_,_,i+1,x,.cons _ t,e=>by
  obtain⟨u,h1,h2⟩:=Vals.get (i:=i) (x:=x) t (by simpa using e)
  exact⟨u,by simpa using h1,h2⟩
theorem Vals.set{x:V}{u:Value}(r:RelV x u):∀ {xs:List V} {us:List Value} (i:Nat),Vals xs us->Vals (xs.set i x) (us.set i u)
 |_,_,_,.nil=>.nil
 |_,_,0,.cons _ t=>.cons r t
 |_,_,i+1,.cons q t=>.cons q (Vals.set r i t)
theorem Vals.append:∀ {xs ys:List V} {us ws:List Value},Vals xs us->Vals ys ws->Vals (xs++ys) (us++ws)
 |_,_,_,_,.nil,s=>s
 |_,_,_,_,.cons r t,s=>.cons r (Vals.append t s)
theorem Vals.take:∀ {xs:List V} {us:List Value} (n:Nat),Vals xs us->Vals (xs.take n) (us.take n)
 |_,_,0,_=>.nil
 |_,_,_+1,.nil=>.nil
 |_,_,n+1,.cons r t=>.cons r (Vals.take n t)
theorem Vals.drop:∀ {xs:List V} {us:List Value} (n:Nat),Vals xs us->Vals (xs.drop n) (us.drop n)
 |_,_,0,r=>r
 |_,_,_+1,.nil=>.nil
 |_,_,n+1,.cons _ t=>Vals.drop n t
def qu:Option V->Option Value->Prop
 |some v,some u=>RelV v u
 |none,none=>True
 |_,_=>False
def KV{κ:Type}:List (κ×V)->List (κ×Value)->Prop:=Paired fun(p:κ×V)(q:κ×Value)=>p.1=q.1/\RelV p.2 q.2
def kV:Key->V
 |.inl i=>.int i
 |.inr x=>.str x
inductive HO where
 |lst (xs:List V)
 |tup (xs:List V)
 |dK (kvs:List (Key×V))|dT (kvs:List (List Key×V))
 |set (S:Int->Bool) (n:Nat)
 |ins (C dx:Addr) (fs:List (Str×V))
 |own (x:Addr)
 |xd (fs:List (Str×V))
 |met (f x:Addr)
 |rng (lo hi:Int)
 |frz (o:Obj) (u:HO)
 |tbl (ps:Array Value)
 |ext (φ:Heap->Prop)
abbrev Hp:=Addr->Option HO
def upd(H:Hp)(a:Addr)(o:HO):Hp:=fun b=>if b=a then some o else H b
theorem aA{H:Hp}{a:Addr}{o:HO}:upd H a o a=some o:=by unfold upd;rw[if_pos rfl]
theorem aO{H:Hp}{a b:Addr}{o:HO}(h:b≠a):upd H a o b=H b:=by unfold upd;rw[if_neg h]
theorem pH{H:Hp}{a b:Addr}{o u:HO}(h:H a=some o)(h':H b=some u)(d:o≠u):a≠b:=by
 intro e;subst e;rw[h] at h';exact d (Option.some.inj h')
theorem bG{H:Hp}{a b:Addr}{o:HO}(h:H a=some o)(h':H b=none):a≠b:=by
 intro e;subst e;rw[h] at h';cases h'
section
variable(P:Program)(w:World)
def cM(H:Hp)(h:Heap)(a:Addr):HO->Prop
 |.lst xs=>xs.length<=sizeLine/\∃(its:List Value)(n:Nat),Vals xs its/\h.get? a=some { cls:=.type "list",data:=.seq its.toArray n }
 |.tup xs=>xs.length<=sizeLine/\∃ its:List Value,Vals xs its/\IsTup h a its.toArray
 |.dK kvs=>kvs.length<=sizeLine/\(a==sysModules)=false/\∃ vs,KV kvs vs/\h.DictOf (dR P w) a vs
 |.dT kvs=>kvs.length<=sizeLine/\(a==sysModules)=false/\∃ xs:List (List Key×Addr×Value),
   Paired (fun(p:List Key×V)(q:List Key×Addr×Value)=>p.1=q.1/\H q.2.1=some (.tup (p.1.map kV))/\RelV p.2 q.2.2) kvs xs /\
   ∃ o es ep,h.get? a=some o/\o.ExactDict/\o.data=.dict es ep/\es.toList=xs.map (entryOfKey (tupleKind (dR P w)))/\(xs.map (·.1)).Nodup
 |.set S n=>h.SetOf (intKind P w) a S n
 |.ins C dx fs=>H dx=some (.own a)/\fs.length<=1000/\dx≠a/\h.get? a=some (PySem.W.instObj C dx) /\
   ∃ mA,h.Ns1 dx mA/\(∀ f,qu (fs.lookup f) (mA f))/\PySem.Within mA (fs.map (·.1))
 |.own _=>∃ o,h.get? a=some o
 |.xd fs=>∃ mA,h.Ns1 a mA/\∀ f,qu (fs.lookup f) (mA f)
 |.rng lo hi=>∃ t u v,h.get? a=some { cls:=.type "range",data:=.fields #[.int lo t,.int hi u,.int 1 v] }
 |.frz o u=>h.get? a=some o/\cM H h a u
 |.tbl ps=>h.get? a=some { cls:=.none,data:=.fields ps }
 |.met f x=>h.get? a=some (PySem.W.methodObj (.ref f) (.ref x))
 |.ext φ=>φ h/\(∃ o,h.get? a=some o)/\∀ h1 h2:Heap,φ h1->(∀ o,h1.get? a=some o->h2.get? a=some o)->φ h2
def HOk(H:Hp)(h:Heap):Prop:=∀ a o,H a=some o->cM P w H h a o
end
section
variable{P:Program}{w:World}{H H':Hp}{h h':Heap}{a:Addr}{o:HO}
theorem cM.lt(x:cM P w H h a o):a<h.objs.size:=by
 cases o with
 |lst xs=>obtain⟨_,_,_,_,e⟩:=x;exact Heap.lt_size e
 |tup xs=>obtain⟨_,_,_,p⟩:=x;exact p.lt
 |dK kvs=>obtain⟨_,_,_,_,o,_,_,e,_⟩:=x;exact Heap.lt_size e
 |dT kvs=>obtain⟨_,_,_,_,o,_,_,e,_⟩:=x;exact Heap.lt_size e
 |set S n=>obtain⟨o,_,_,_,e,_⟩:=x;exact Heap.lt_size e
 |ins C dx fs=>obtain⟨_,_,_,e,_⟩:=x;exact Heap.lt_size e
 |own y=>obtain⟨_,e⟩:=x;exact Heap.lt_size e
 |xd fs=>obtain⟨_,⟨_,_,_,e,_⟩,_⟩:=x;exact Heap.lt_size e
 |rng lo hi=>obtain⟨_,_,_,e⟩:=x;exact Heap.lt_size e
 |frz ob u=>obtain⟨e,_⟩:=x;exact Heap.lt_size e
 |tbl ps=>exact Heap.lt_size (show h.get? a=some _ from x)
 |met f y=>exact Heap.lt_size (show h.get? a=some _ from x)
 |ext φ=>obtain⟨_,⟨_,e⟩,_⟩:=x;exact Heap.lt_size e
theorem Paired.Tr{α β:Type}{F G:α->β->Prop}:∀ {l₁:List α} {l₂:List β},Paired F l₁ l₂->(∀ a b,F a b->G a b)->Paired G l₁ l₂
 |_,_,.nil,_=>.nil
 |_,_,.cons r t,f=>.cons (f _ _ r) (Paired.Tr t f)
theorem cM.stay(x:cM P w H h a o)(k:∀ b u,(b=a\/H b=some (.own a))->h.get? b=some u->h'.get? b=some u)
  (ho:∀ b,H b=some (.own a)->H' b=some (.own a)) (ht:∀ b xs,H b=some (.tup xs)->H' b=some (.tup xs)):cM P w H' h' a o:=by
 induction o with
 |lst xs=>obtain⟨z,its,n,r,e⟩:=x;exact⟨z,its,n,r,k _ _ (.inl rfl) e⟩
 |tup xs=>obtain⟨z,its,r,ob,e,c⟩:=x;exact⟨z,its,r,ob,k _ _ (.inl rfl) e,c⟩
 |dK kvs=>obtain⟨z,y,vs,r,ob,es,ep,e,c⟩:=x;exact⟨z,y,vs,r,ob,es,ep,k _ _ (.inl rfl) e,c⟩
 |dT kvs=>
  obtain⟨z,y,xs,r,ob,es,ep,e,c⟩:=x
  exact⟨z,y,xs,Paired.Tr r fun p q z=>⟨z.1,ht _ _ z.2.1,z.2.2⟩,ob,es,ep,k _ _ (.inl rfl) e,c⟩
 |set S n=>obtain⟨ob,es,ep,t,e,c⟩:=x;exact⟨ob,es,ep,t,k _ _ (.inl rfl) e,c⟩
 |ins C dx fs=>
  obtain⟨d,z,ne,e,mA,⟨od,es,ep,e2,c⟩,r⟩:=x
  exact⟨ho _ d,z,ne,k _ _ (.inl rfl) e,mA,⟨od,es,ep,k _ _ (.inr d) e2,c⟩,r⟩
 |own y=>obtain⟨ob,e⟩:=x;exact⟨ob,k _ _ (.inl rfl) e⟩
 |xd fs=>obtain⟨mA,⟨od,es,ep,e,c⟩,r⟩:=x;exact⟨mA,⟨od,es,ep,k _ _ (.inl rfl) e,c⟩,r⟩
 |rng lo hi=>obtain⟨t,u,v,e⟩:=x;exact⟨t,u,v,k _ _ (.inl rfl) e⟩
 |frz ob u ih=>obtain⟨e,q⟩:=x;exact⟨k _ _ (.inl rfl) e,ih q⟩
 |tbl ps=>
  have e:h.get? a=some { cls:=.none,data:=.fields ps }:=x
  show h'.get? a=some { cls:=.none,data:=.fields ps }
  exact k a _ (.inl rfl) e
 |met f y=>
  have e:h.get? a=some (PySem.W.methodObj (.ref f) (.ref y)):=x
  show h'.get? a=some (PySem.W.methodObj (.ref f) (.ref y))
  exact k a _ (.inl rfl) e
 |ext φ=>obtain⟨p,⟨o,e⟩,st⟩:=x;exact⟨st _ _ p fun o q=>k _ _ (.inl rfl) q,⟨o,k _ _ (.inl rfl) e⟩,st⟩
theorem HOk.lt(x:HOk P w H h)(e:H a=some o):a<h.objs.size:=(x a o e).lt
theorem HOk.fresh(x:HOk P w H h)(e:h.objs.size<=a):H a=none:=by
 cases q:H a with
 |none=>rfl
 |some u=>exact absurd (Nat.lt_of_lt_of_le (x.lt q) e) (Nat.lt_irrefl _)
theorem HOk.kept(x:HOk P w H h)(k:∀ b u,h.get? b=some u->h'.get? b=some u):HOk P w H h':=fun a o e=>
 (x a o e).stay (fun b u _ q=>k b u q) (fun _ q=>q) fun _ _ q=>q
theorem HOk.laid(x:HOk P w H h)(k:∀ b u,h.get? b=some u->h'.get? b=some u)(hp:h.objs.size<=a)(new:cM P w (upd H a o) h' a o):HOk P w (upd H a o) h':=fun b u e=>by
 have hn:=x.fresh hp
 by_cases hb:b=a
 ·subst hb;rw[aA] at e;cases e;exact new
 ·rw[aO hb] at e
  exact(x b u e).stay (fun c v _ q=>k c v q) (fun c q=>by rw[aO (bG q hn)];exact q) fun c xs q=>by rw[aO (bG q hn)];exact q
end
def Rd(H:Hp)(a:Addr)(u:HO):Prop:=H a=some u\/∃ o,H a=some (.frz o u)
theorem Rd.ok{P:Program}{w:World}{H:Hp}{h:Heap}{a:Addr}{u:HO}(r:Rd H a u)(x:HOk P w H h):cM P w H h a u:=by
 rcases r with r|⟨o,r⟩
 ·exact x a u r
 ·obtain⟨_,q⟩:=x a _ r
  exact q
def Mut:Option HO->Prop
 |some (.lst _)=>True
 |some (.dK _)=>True
 |some (.dT _)=>True
 |some (.set _ _)=>True
 |some (.ins _ _ _)=>True
 |some (.ext _)=>True
 |_=>False
section
variable{P:Program}{w:World}{H:Hp}{h h':Heap}{x e:Addr}{o':HO}
theorem HOk.write(ok:HOk P w H h)(mu:Mut (H x))(he:e=x\/H e=some (.own x))(k:∀ b u,b≠e->h.get? b=some u->h'.get? b=some u)(heo:∃ u,h'.get? e=some u)
  (new:cM P w (upd H x o') h' x o'):HOk P w (upd H x o') h':=fun b u q=>by
 have Wj:∀ c y,H c=some (.own y)->c≠x:=fun c y r z=>by subst z;rw[r] at mu;exact mu
 have Yp:∀ c xs,H c=some (.tup xs)->c≠x:=fun c xs r z=>by subst z;rw[r] at mu;exact mu
 by_cases hb:b=x
 ·subst hb;rw[aA] at q;cases q;exact new
 ·rw[aO hb] at q
  by_cases hbe:b=e
  ·have q':H b=some (.own x):=by
    rcases he with z|z
    ·exact absurd (hbe.trans z) hb
    ·rw[hbe];exact z
   rw[q] at q';cases q'
   obtain⟨v,hv⟩:=heo
   exact⟨v,by rw[hbe];exact hv⟩
  ·refine(ok b u q).stay (fun c v hc r=>k c v ?_ r) (fun c r=>by rw[aO (Wj c b r)];exact r) fun c xs r=>by rw[aO (Yp c xs r)];exact r
   rcases hc with rfl|hc
   ·exact hbe
   ·rintro rfl
    rcases he with z|z
    ·exact Wj c b hc z
    ·rw[hc] at z;cases z;exact hb rfl
end
structure Un(fs ex:List Addr)(H H':Hp)(h h':Heap):Prop where
 keep:∀ b o,h.get? b=some o->H b=none->b∉fs->b∉ex->h'.get? b=some o
 slot:∀ b o,h.get? b=some o->H b=none->b∈fs->b∉ex->∃ sl,h'.get? b=some { o with slots:=sl }
 free:∀ b o,h.get? b=some o->H b=none->b∉ex->H' b=none
 there:∀ b o,h.get? b=some o->b∉ex->∃ o',h'.get? b=some o'
 tups:∀ b xs,H b=some (.tup xs)->H' b=some (.tup xs)
 pC:∀ b o u,H b=some (.frz o u)->H' b=some (.frz o u)
 rN:∀ b ps,H b=some (.tbl ps)->∃ more,H' b=some (.tbl (ps++more))
section
variable{fs fs' ex ex':List Addr}{H H1 H2:Hp}{h h1 h2 h':Heap}{a x e:Addr}{o:HO}
theorem Un.any(u:Un fs ex H H1 h h1){b:Addr}{ob:Obj}(q:h.get? b=some ob)(n:H b=none)(hx:b∉ex):∃ sl,h1.get? b=some { ob with slots:=sl }:=by
 by_cases hb:b∈fs
 ·exact u.slot b ob q n hb hx
 ·exact⟨ob.slots,u.keep b ob q n hb hx⟩
theorem Un.kept(k:∀ b u,h.get? b=some u->h'.get? b=some u):Un fs ex H H h h':=
 ⟨fun b ob q _ _ _=>k b ob q,fun b ob q _ _ _=>⟨ob.slots,k b ob q⟩,fun _ _ _ n _=>n,fun b ob q _=>⟨ob,k b ob q⟩,fun _ _ q=>q,fun _ _ _ q=>q,fun _ ps q=>⟨#[],by rw[q];simp⟩⟩
theorem Un.refl:Un fs ex H H h h:=Un.kept fun _ _ q=>q
theorem Un.laid(k:∀ b u,h.get? b=some u->h'.get? b=some u)(hp:h.objs.size<=a)(hn:H a=none):Un fs ex H (upd H a o) h h' where
 keep:=fun b u q _ _ _=>k b u q
 slot:=fun b u q _ _ _=>⟨u.slots,k b u q⟩
 free:=fun b u q n _=>by rw[aO (Nat.ne_of_lt (Nat.lt_of_lt_of_le (Heap.lt_size q) hp))];exact n
 there:=fun b u q _=>⟨u,k b u q⟩
 tups:=fun b xs q=>by rw[aO (bG q hn)];exact q
 pC:=fun b u xs q=>by rw[aO (bG q hn)];exact q
 rN:=fun b ps q=>⟨#[],by rw[aO (bG q hn),q];simp⟩
theorem Un.write(mu:Mut (H x))(he:e=x\/H e=some (.own x))(k:∀ b u,b≠e->h.get? b=some u->h'.get? b=some u)(heo:∃ u,h'.get? e=some u):Un fs ex H (upd H x o) h h':=by
 have hx:∀ b,H b=none->b≠x:=fun b n z=>by subst z;rw[n] at mu;exact mu
 have hb:∀ b,H b=none->b≠e:=fun b n z=>by
  subst z
  rcases he with r|r
  ·exact hx b n r
  ·rw[n] at r;cases r
 have hm:∀ b u,H b=some u->¬Mut (some u)->b≠x:=fun b u q nm z=>by subst z;rw[q] at mu;exact nm mu
 refine⟨fun b u q n _ _=>k b u (hb b n) q,fun b u q n _ _=>⟨u.slots,k b u (hb b n) q⟩,fun b u q n _=>by rw[aO (hx b n)];exact n,fun b u q _=>?_,
  fun b xs q=>by rw[aO (hm b _ q fun z=>z)];exact q,fun b u xs q=>by rw[aO (hm b _ q fun z=>z)];exact q,fun b ps q=>⟨#[],by rw[aO (hm b _ q fun z=>z),q];simp⟩⟩
 by_cases hbe:b=e
 ·subst hbe;exact heo
 ·exact⟨u,k b u hbe q⟩
end
def trk(h:Heap)(H:Hp):List Addr:=(List.range h.objs.size).filter fun a=>(H a).isSome
def yP(h:Heap)(H:Hp):Heap:=PySem.W.hideAll h (trk h H)
theorem HY(h:Heap)(H:Hp):(yP h H).objs.size=h.objs.size:=PySem.W.hideAll_size _ _
theorem Ko{h:Heap}{H:Hp}{b:Addr}{o:Obj}(e:h.get? b=some o)(n:H b=none):(yP h H).get? b=some o:=
 PySem.W.hideAll_get _ e fun hm=>by
  have q:(H b).isSome=true:=(List.mem_filter.mp hm).2
  rw[n] at q;simp at q
theorem PB{h:Heap}{H:Hp}{b:Addr}{o:Obj}(e:(yP h H).get? b=some o):h.get? b=some o/\H b=none:=by
 have e':h.get? b=some o:=PySem.W.of_hideAll (trk h H) e
 refine⟨e',?_⟩
 cases q:H b with
 |none=>rfl
 |some x=>
  have hm:b∈trk h H:=List.mem_filter.mpr ⟨List.mem_range.mpr (Heap.lt_size e'),by simp[q]⟩
  have z:(yP h H).get? b=none:=PySem.W.hideAll_none (trk h H) hm
  rw[z] at e;cases e
end L2
namespace L2
open PySem PySem.Spec PyProof.Rows
structure Mod(K:PySem.W.Frag)(mg:Str->Option Value)(base:Heap):Prop where
 kin:K.In base
 glob:base.Ns mainGlobals mg
 blt:∃ mb,base.Ns builtinsNs mb/\∀ x:Str,x ≠ "__name__" -> mb x=bootBuiltins x
 nolimit:base.NoLimit
structure Cx where
 prog:Program
 w:World
 K:PySem.W.Frag
 mg:Str->Option Value
 base:Heap
 A:Around
 N:List Str
 s₀:Shared
 H₀:Hp
 env:Env
 outer:List Env
 stack:List Env
 ex:List Addr
 fn:Str->Bool
 calm:Bool
 pn:List (Addr×Obj)
 xe:Value->Shared->Prop
def frs(l:List Env):List Addr:=l.filterMap (·.frame)
abbrev Cx.fs(X:Cx):List Addr:=frs X.outer
def Vis(sc:Scope)(x:Str):Prop:=sc.names.lookup x=some .local\/sc.names.lookup x=some .cell\/sc.names.lookup x=some .free
def Loc(sc:Scope)(x:Str):Prop:=sc.names.lookup x=some .local\/sc.names.lookup x=some .cell
def Look(env:Env)(h:Heap)(m:Str->Option Value)(x:Str)(u:Value):Prop:=
 (env.kindOf x=some .local/\m x=some u)\/((env.kindOf x=some .cell\/env.kindOf x=some .free)/\∃ c,env.cells.lookup x=some c/\h.IsCell c (some u))
structure Cx.Ok(X:Cx):Prop where
 mod:Mod X.K X.mg X.base
 kind:X.env.scope.kind=.function
 glob:X.env.globals=mainGlobals
 blt:X.env.builtins=builtinsNs
 above:X.s₀.heap.objs.size<=X.env.locals
 inj:∀ x y c,X.env.cells.lookup x=some c->X.env.cells.lookup y=some c->x=y
 has:∀ x,(X.env.kindOf x=some .cell\/X.env.kindOf x=some .free)->∃ c,X.env.cells.lookup x=some c
 cab:∀ x c,X.fn x=true->X.env.cells.lookup x=some c->X.s₀.heap.objs.size<=c
 hd:X.calm=true->X.A.handled=none
 frames:X.A.frames=some X.stack
 stk:X.stack=X.outer\/(X.stack=X.env::X.outer/\X.env.frame=some X.env.locals)
 exf:∀ b∈X.ex,b≠X.env.locals/\∀ x c,X.env.cells.lookup x=some c->c≠b
 bs:∀ b o,X.base.get? b=some o->X.s₀.heap.get? b=some o/\X.H₀ b=none
 bsz:X.base.objs.size<=X.s₀.heap.objs.size
 Im:∀ b o,X.base.get? b=some o->b∉X.ex
 Kc:∀ b∈X.ex,b∉X.fs
 pD:X.s₀.heap.FunFrames X.base X.outer
 frf:∀ b∈X.fs,X.H₀ b=none
structure Inv(X:Cx)(pins:List (Addr×Obj))(σ:List (Option V))(H:Hp)(s:Shared):Prop where
 ok:X.Ok
 os:s.os=X.s₀.os
 bare:AllBare s.gens
 base:Un X.fs X.ex X.H₀ H X.s₀.heap s.heap
 loc:∃ m,s.heap.Ns X.env.locals m/\∀(i:Nat)(x:Str)(v:V),X.N[i]?=some x->σ[i]?=some (some v)->Vis X.env.scope x->∃ u,RelV v u/\Look X.env s.heap m x u
 cell:∀ x c,X.env.cells.lookup x=some c->∃ v,s.heap.IsCell c v
 free:H X.env.locals=none
 iC:∀ x c,X.env.cells.lookup x=some c->H c=none
 pin:∀ p∈X.pn++pins,s.heap.get? p.1=some p.2/\H p.1=none/\p.1≠X.env.locals/\p.1∉X.fs/\∀ v,p.2.data≠.cell v
 hok:HOk X.prog X.w H s.heap
 len:σ.length=X.N.length
section
variable{X:Cx}{pins:List (Addr×Obj)}{σ:List (Option V)}{H H':Hp}{s:Shared}{h':Heap}
theorem Cx.Ok.Yh(ok:X.Ok){b:Addr}{o:Obj}(e:X.base.get? b=some o):b∉X.fs:=fun hb=>by
 have:=(ok.pD.mem hb).1
 rw[e] at this;cases this
theorem Inv.bs(I:Inv X pins σ H s):∀ b o,X.base.get? b=some o->s.heap.get? b=some o/\H b=none:=fun b o e=>
 ⟨I.base.keep b o (I.ok.bs b o e).1 (I.ok.bs b o e).2 (I.ok.Yh e) (I.ok.Im b o e),I.base.free b o (I.ok.bs b o e).1 (I.ok.bs b o e).2 (I.ok.Im b o e)⟩
theorem Inv.bk(I:Inv X pins σ H s):∀ b o,X.base.get? b=some o->s.heap.get? b=some o:=fun b o e=>(I.bs b o e).1
theorem Inv.mod(I:Inv X pins σ H s):Mod X.K X.mg X.base:=I.ok.mod
theorem Inv.kIn(I:Inv X pins σ H s):X.K.In s.heap:=I.ok.mod.kin.keeps I.bk
theorem Inv.lt(I:Inv X pins σ H s):X.env.locals<s.heap.objs.size:=let ⟨_,hn,_⟩:=I.loc;hn.lt
theorem Inv.sz(I:Inv X pins σ H s):X.s₀.heap.objs.size<=s.heap.objs.size:=Nat.le_trans I.ok.above (Nat.le_of_lt I.lt)
theorem Inv.Yi(I:Inv X pins σ H s){a:Addr}(h:s.heap.objs.size<=a):a∉X.fs:=fun hb=>by
 obtain⟨_,o,ho,_⟩:=I.ok.pD.mem hb
 exact absurd (Nat.lt_of_lt_of_le (Heap.lt_size ho) (Nat.le_trans I.sz h)) (Nat.lt_irrefl _)
theorem Inv.cne(I:Inv X pins σ H s):∀ x c,X.env.cells.lookup x=some c->c≠X.env.locals:=fun x c e z=>by
 obtain⟨v,o,ho,hd⟩:=I.cell x c e
 obtain⟨m,⟨o',es,ep,ho',hd',_⟩,_⟩:=I.loc
 rw[z,ho'] at ho;cases ho;rw[hd'] at hd;cases hd
theorem Inv.pD(I:Inv X pins σ H s):s.heap.FunFrames X.base X.outer:=by
 have all:∀(l:List Env),(∀ b∈frs l,b∈X.fs)->X.s₀.heap.FunFrames X.base l->s.heap.FunFrames X.base l:=by
  intro l
  induction l with
  |nil=>intro _ _;trivial
  |cons env r ih=>
   intro hs hl
   obtain⟨hk,⟨L,o,hf,hn,ho,hd⟩,hr⟩:=hl
   have hL:L∈X.fs:=hs L (by unfold frs;rw[List.filterMap_cons,hf];exact List.mem_cons_self)
   obtain⟨sl,e⟩:=I.base.slot L o ho (I.ok.frf L hL) hL fun z=>I.ok.Kc L z hL
   exact⟨hk,⟨L,_,hf,hn,e,hd⟩,ih (fun b hb=>hs b (by unfold frs;rw[List.filterMap_cons,hf];exact List.mem_cons_of_mem _ hb)) hr⟩
 exact all X.outer (fun _ hb=>hb) I.ok.pD
theorem Inv.stack(I:Inv X pins σ H s):s.heap.FunFrames X.base X.stack:=by
 rcases I.ok.stk with e|⟨e,hf⟩
 ·rw[e];exact I.pD
 ·rw[e]
  obtain⟨m,hn,_⟩:=I.loc
  refine .cons (by rw[I.ok.kind];decide) hf hn ?_ I.pD
  exact Heap.get?_none_of_le (Nat.le_trans I.ok.bsz I.ok.above)
theorem Inv.rM(I:Inv X pins σ H s):∀ b∈frs X.stack,b∈X.env.locals::X.fs:=fun b hb=>by
 rcases I.ok.stk with e|⟨e,hf⟩
 ·rw[e] at hb;exact List.mem_cons_of_mem _ hb
 ·rw[e] at hb
  unfold frs at hb
  rw[List.filterMap_cons,hf] at hb
  exact hb
theorem Inv.ug(I:Inv X pins σ H s):∀ b∈frs X.stack,H b=none:=fun b hb=>by
 rcases List.mem_cons.mp (I.rM b hb) with e|hb
 ·rw[e];exact I.free
 ·obtain⟨_,o,ho,_⟩:=I.ok.pD.mem hb
  exact I.base.free b o ho (I.ok.frf b hb) fun z=>I.ok.Kc b z hb
theorem Inv.step{g':Array GenState}{t':Nat}{d':Drawn}{ch:List Addr}(I:Inv X pins σ H s)
  (hch:∀ b∈ch,(b∈X.ex\/X.s₀.heap.objs.size<=b)/\b≠X.env.locals/\(∀ x c,X.env.cells.lookup x=some c->c≠b)/\∀ p∈X.pn++pins,p.1≠b)
  (keep:∀ b o,b≠X.env.locals->b∉X.fs->b∉ch->s.heap.get? b=some o->H b=none->h'.get? b=some o)
  (slot:∀ b o,b≠X.env.locals->b∈X.fs->b∉ch->s.heap.get? b=some o->H b=none->∃ sl,h'.get? b=some { o with slots:=sl }) (free:∀ b o,b∉ch->s.heap.get? b=some o->H b=none->H' b=none)
  (there:∀ b o,b∉ch->s.heap.get? b=some o->∃ o',h'.get? b=some o')
  (tups:∀ b xs,H b=some (.tup xs)->H' b=some (.tup xs)) (pC:∀ b o u,H b=some (.frz o u)->H' b=some (.frz o u)) (rN:∀ b ps,H b=some (.tbl ps)->∃ more,H' b=some (.tbl (ps++more)))
  (ns:∀ m,s.heap.Ns X.env.locals m->h'.Ns X.env.locals m) (hok:HOk X.prog X.w H' h') (hg:AllBare g') :
  Inv X pins σ H' { s with heap:=h',gens:=g',drawn:=d',toks:=t' }:=by
 have neL:∀ b o,X.s₀.heap.get? b=some o->b≠X.env.locals:=fun b o e=>Nat.ne_of_lt (Nat.lt_of_lt_of_le (Heap.lt_size e) I.ok.above)
 have neC:∀ b o,X.s₀.heap.get? b=some o->b∉X.ex->b∉ch:=fun b o e hx hb=>by
  rcases(hch b hb).1 with z|z
  ·exact hx z
  ·exact absurd (Nat.lt_of_lt_of_le (Heap.lt_size e) z) (Nat.lt_irrefl _)
 have cellK:∀ x c,X.env.cells.lookup x=some c->∀ v,s.heap.IsCell c v->h'.IsCell c v:=fun x c e v ⟨o,ho,hd⟩=>by
  have nch:c∉ch:=fun z=>(hch c z).2.2.1 x c e rfl
  by_cases hc:c∈X.fs
  ·obtain⟨sl,q⟩:=slot c o (I.cne x c e) hc nch ho (I.iC x c e)
   exact⟨_,q,hd⟩
  ·exact⟨o,keep c o (I.cne x c e) hc nch ho (I.iC x c e),hd⟩
 refine⟨I.ok,I.os,hg,⟨fun b o e n hb hx=>?_,fun b o e n hb hx=>?_,fun b o e n hx=>?_,fun b o e hx=>?_,fun b xs e=>tups b xs (I.base.tups b xs e),fun b o xs e=>pC b o xs (I.base.pC b o xs e),fun b ps e=>?_⟩,?_,fun x c e=>?_,?_,fun x c e=>?_,fun p hp=>?_,hok,I.len⟩
 ·exact keep b o (neL b o e) hb (neC b o e hx) (I.base.keep b o e n hb hx) (I.base.free b o e n hx)
 ·obtain⟨sl,e1⟩:=I.base.slot b o e n hb hx
  obtain⟨sl',e2⟩:=slot b _ (neL b o e) hb (neC b o e hx) e1 (I.base.free b o e n hx)
  exact⟨sl',e2⟩
 ·obtain⟨o',e1⟩:=I.base.there b o e hx
  exact free b o' (neC b o e hx) e1 (I.base.free b o e n hx)
 ·obtain⟨o',e1⟩:=I.base.there b o e hx
  exact there b o' (neC b o e hx) e1
 ·obtain⟨m1,e1⟩:=I.base.rN b ps e
  obtain⟨m2,e2⟩:=rN b _ e1
  exact⟨m1++m2,by rw[e2,Array.append_assoc]⟩
 ·obtain⟨m,hn,hl⟩:=I.loc
  refine⟨m,ns m hn,fun i x v e1 e2 e3=>?_⟩
  obtain⟨u,r,l⟩:=hl i x v e1 e2 e3
  refine⟨u,r,?_⟩
  rcases l with l|⟨k,c,e,z⟩
  ·exact .inl l
  ·exact .inr ⟨k,c,e,cellK x c e _ z⟩
 ·obtain⟨v,z⟩:=I.cell x c e
  exact⟨v,cellK x c e v z⟩
 ·obtain⟨m,⟨o,_,_,ho,_⟩,_⟩:=I.loc
  exact free _ o (fun z=>(hch _ z).2.1 rfl) ho I.free
 ·obtain⟨v,o,ho,hd⟩:=I.cell x c e
  exact free c o (fun z=>(hch c z).2.2.1 x c e rfl) ho (I.iC x c e)
 ·obtain⟨e,n,ne,nf,d⟩:=I.pin p hp
  have nch:p.1∉ch:=fun z=>(hch p.1 z).2.2.2 p hp rfl
  exact⟨keep p.1 p.2 ne nf nch e n,free p.1 p.2 nch e n,ne,nf,d⟩
theorem Inv.un{t':Nat}(I:Inv X pins σ H s)(u:Un X.fs [] H H' s.heap h')(hok:HOk X.prog X.w H' h'):Inv X pins σ H' { s with heap:=h',toks:=t' }:=by
 obtain⟨m,⟨o,es,ep,ho,r⟩,_⟩:=id I.loc
 obtain⟨sl,hL⟩:=u.any ho I.free (by simp)
 exact I.step (g':=s.gens) (d':=s.drawn) (ch:=[]) (fun _ z=>nomatch z) (fun b o _ hb _ e n=>u.keep b o e n hb (by simp)) (fun b o _ hb _ e n=>u.slot b o e n hb (by simp)) (fun b o _ e n=>u.free b o e n (by simp)) (fun b o _ e=>u.there b o e (by simp)) u.tups u.pC u.rN (fun m' hm=>by
  obtain⟨o',es',ep',ho',r'⟩:=hm
  rw[ho] at ho';cases ho'
  exact⟨_,es',ep',hL,r'⟩) hok I.bare
theorem Inv.call{g':Array GenState}{t':Nat}{d':Drawn}{ch:List Addr}(I:Inv X pins σ H s)(u:Un (frs X.stack) ch H H' s.heap h')(hok:HOk X.prog X.w H' h')(hg:AllBare g')
  (hch:∀ b∈ch,(b∈X.ex\/X.s₀.heap.objs.size<=b)/\b≠X.env.locals/\(∀ x c,X.env.cells.lookup x=some c->c≠b)/\∀ p∈X.pn++pins,p.1≠b) :
  Inv X pins σ H' { s with heap:=h',gens:=g',drawn:=d',toks:=t' }:=by
 obtain⟨m,⟨o,es,ep,ho,r⟩,_⟩:=id I.loc
 obtain⟨sl,hL⟩:=u.any ho I.free fun z=>(hch _ z).2.1 rfl
 exact I.step (ch:=ch) hch (fun b o hL hb hc e n=>u.keep b o e n (fun z=>(List.mem_cons.mp (I.rM b z)).elim hL hb) hc) (fun b o _ _ hc e n=>u.any e n hc) (fun b o hc e n=>u.free b o e n hc) (fun b o hc e=>u.there b o e hc) u.tups u.pC u.rN (fun m' hm=>by
  obtain⟨o',es',ep',ho',r'⟩:=hm
  rw[ho] at ho';cases ho'
  exact⟨_,es',ep',hL,r'⟩) hok hg
theorem Inv.turned{t':Nat}{it:Addr}(I:Inv X pins σ H s)(k:∀ b o,b≠it->s.heap.get? b=some o->h'.get? b=some o)(hn:H it=none)(hL:it≠X.env.locals)
  (h1:it∈X.ex\/X.s₀.heap.objs.size<=it) (h2:∀ x c,X.env.cells.lookup x=some c->c≠it) (h3:∀ p∈X.pn++pins,p.1≠it):Inv X pins σ H { s with heap:=h',toks:=t' }:=by
 have nit:∀ b u,H b=some u->b≠it:=fun b u e z=>by rw[z,hn] at e;cases e
 refine I.step (g':=s.gens) (d':=s.drawn) (ch:=[it]) (fun b hb=>?_) (fun b o _ _ hc e _=>k b o (fun z=>hc (by simp[z])) e) (fun b o _ _ hc e _=>⟨o.slots,k b o (fun z=>hc (by simp[z])) e⟩) (fun _ _ _ _ n=>n)
  (fun b o hc e=>⟨o,k b o (fun z=>hc (by simp[z])) e⟩) (fun _ _ e=>e) (fun _ _ _ e=>e) (fun b ps e=>⟨#[],by rw[e];simp⟩) (fun m hm=>?_) (fun b u e=>?_) I.bare
 ·have e:b=it:=by simpa using hb
  subst e
  exact⟨h1,hL,h2,h3⟩
 ·obtain⟨o,es,ep,ho,r⟩:=hm
  exact⟨o,es,ep,k _ o (Ne.symm hL) ho,r⟩
 ·refine(I.hok b u e).stay (fun c v hc q=>k c v ?_ q) (fun _ q=>q) fun _ _ q=>q
  rcases hc with z|z
  ·rw[z];exact nit b u e
  ·exact nit c _ z
theorem Inv.tok(I:Inv X pins σ H s)(t:Nat):Inv X pins σ H { s with toks:=t }:=I.un (h':=s.heap) (t':=t) Un.refl I.hok
theorem Inv.kept{t':Nat}(I:Inv X pins σ H s)(k:∀ b u,s.heap.get? b=some u->h'.get? b=some u):Inv X pins σ H { s with heap:=h',toks:=t' }:=I.un (Un.kept k) (I.hok.kept k)
theorem Inv.laid{a:Addr}{o:HO}{t':Nat}(I:Inv X pins σ H s)(k:∀ b u,s.heap.get? b=some u->h'.get? b=some u)(hp:s.heap.objs.size<=a)(new:cM X.prog X.w (upd H a o) h' a o) :
  Inv X pins σ (upd H a o) { s with heap:=h',toks:=t' }:=I.un (Un.laid k hp (I.hok.fresh hp)) (I.hok.laid k hp new)
theorem Inv.write{x e:Addr}{o:HO}{t':Nat}(I:Inv X pins σ H s)(mu:Mut (H x))(he:e=x\/H e=some (.own x))(k:∀ b u,b≠e->s.heap.get? b=some u->h'.get? b=some u)(heo:∃ u,h'.get? e=some u)
  (new:cM X.prog X.w (upd H x o) h' x o):Inv X pins σ (upd H x o) { s with heap:=h',toks:=t' }:=I.un (Un.write mu he k heo) (I.hok.write mu he k heo new)
theorem Inv.pK{Rr:List (Addr×Obj)}(I:Inv X pins σ H s)(h:∀ p∈Rr,s.heap.get? p.1=some p.2/\H p.1=none/\p.1≠X.env.locals/\p.1∉X.fs/\∀ v,p.2.data≠.cell v):Inv X Rr σ H s:=
 ⟨I.ok,I.os,I.bare,I.base,I.loc,I.cell,I.free,I.iC,fun p hp=>(List.mem_append.mp hp).elim (fun z=>I.pin p (List.mem_append_left _ z)) (h p),I.hok,I.len⟩
theorem Ar{N:List Str}(hN:N.Nodup){i j:Nat}{x:Str}(a:N[i]?=some x)(b:N[j]?=some x):i=j:=by
 obtain⟨h1,e1⟩:=List.getElem?_eq_some_iff.mp a
 obtain⟨h2,e2⟩:=List.getElem?_eq_some_iff.mp b
 exact(List.getElem_inj hN).mp (e1.trans e2.symm)
theorem yc{M:Model}{A:Around}{E:Value->Shared->Prop}{i:Nat}{x:Str}{v:V}{u:Value}{Q:Unit->Shared->Prop}(I:Inv X pins σ H s)(hN:X.N.Nodup)(hi:X.N[i]?=some x)(hx:Loc X.env.scope x)(r:RelV v u)
  (h:∀ s',Inv X pins (σ.set i (some v)) H s'->(∃ a,Heap.SameBut a s.heap s'.heap/\(a=X.env.locals\/X.env.cells.lookup x=some a))->Q () s') (hf:X.fn x=true\/X.env.scope.names.lookup x=some .local:=by first|exact .inl rfl|exact .inr rfl|assumption):wpAny M A (storeName X.env x u) Q E s:=by
 obtain⟨m,hn,hl⟩:=id I.loc
 have hcls:(X.env.scope.kind==.class||(X.env.scope.kind==.module&&X.env.locals != X.env.globals))=false:=by rw[I.ok.kind];rfl
 have hiσ:i < σ.length:=by rw[I.len];exact(List.getElem?_eq_some_iff.mp hi).1
 have cne:=I.cne
 have tracked:∀ {a:Addr} {h':Heap},(∃ o,s.heap.get? a=some o/\H a=none)->Heap.SameBut a s.heap h'->HOk X.prog X.w H h':=fun {a h'} ha hs b ob e=>by
  obtain⟨_,_,hfree⟩:=ha
  refine(I.hok b ob e).stay (fun c w' hc q=>(hs.2 c ?_).trans q) (fun _ q=>q) fun _ _ q=>q
  rintro rfl
  rcases hc with rfl|hc
  ·rw[hfree] at e;cases e
  ·rw[hfree] at hc;cases hc
 rcases hx with hk|hk
 ·refine wpAny_storeName_local hk hn (fun h' hn' hs=>?_) hcls
  obtain⟨oL,_,_,hoL,_⟩:=id hn
  refine h _ ⟨I.ok,I.os,I.bare,⟨fun b o e n hb hx=>?_,fun b o e n hb hx=>?_,I.base.free,fun b o e hx=>?_,I.base.tups,I.base.pC,I.base.rN⟩,⟨_,hn',fun j y v' e1 e2 e3=>?_⟩,fun y c e=>?_,I.free,I.iC,fun p hp=>?_,tracked ⟨oL,hoL,I.free⟩ hs,by simpa using I.len⟩ ⟨_,hs,.inl rfl⟩
  ·exact(hs.2 b (Nat.ne_of_lt (Nat.lt_of_lt_of_le (Heap.lt_size e) I.ok.above))).trans (I.base.keep b o e n hb hx)
  ·obtain⟨sl,e1⟩:=I.base.slot b o e n hb hx
   exact⟨sl,(hs.2 b (Nat.ne_of_lt (Nat.lt_of_lt_of_le (Heap.lt_size e) I.ok.above))).trans e1⟩
  ·obtain⟨o',e1⟩:=I.base.there b o e hx
   exact⟨o',(hs.2 b (Nat.ne_of_lt (Nat.lt_of_lt_of_le (Heap.lt_size e) I.ok.above))).trans e1⟩
  ·by_cases hj:j=i
   ·subst hj
    rw[hi] at e1;cases e1
    rw[List.getElem?_set_self hiσ] at e2
    cases e2
    exact⟨u,r,.inl ⟨hk,by simp⟩⟩
   ·rw[List.getElem?_set_ne (Ne.symm hj)] at e2
    obtain⟨u',r',q⟩:=hl j y v' e1 e2 e3
    refine⟨u',r',?_⟩
    rcases q with⟨k,e⟩|⟨k,c,e,z⟩
    ·refine .inl ⟨k,?_⟩
     have:y≠x:=fun e=>hj (Ar hN e1 (e▸hi))
     simp[this,e]
    ·exact .inr ⟨k,c,e,z.sameBut hs (cne y c e)⟩
  ·obtain⟨w',z⟩:=I.cell y c e
   exact⟨w',z.sameBut hs (cne y c e)⟩
  ·obtain⟨e,n,ne,nf,d⟩:=I.pin p hp
   exact⟨(hs.2 p.1 ne).trans e,n,ne,nf,d⟩
 ·have hfn:X.fn x=true:=by
   rcases hf with z|z
   ·exact z
   ·rw[z] at hk;cases hk
  obtain⟨c,hc⟩:=I.ok.has x (.inl hk)
  obtain⟨w',z⟩:=I.cell x c hc
  refine wpAny_storeName_cell I.ok.kind hk hc z (fun h' hc' hs=>?_)
  obtain⟨oc,hoc,XS⟩:=id z
  refine h { s with heap:=h' } ⟨I.ok,I.os,I.bare,⟨fun b o e n hb hx=>?_,fun b o e n hb hx=>?_,I.base.free,fun b o e hx=>?_,I.base.tups,I.base.pC,I.base.rN⟩,⟨m,hn.sameBut hs (Ne.symm (cne x c hc)),fun j y v' e1 e2 e3=>?_⟩,fun y c' e=>?_,I.free,I.iC,fun p hp=>?_,tracked ⟨oc,hoc,I.iC x c hc⟩ hs,by simpa using I.len⟩ ⟨c,hs,.inr hc⟩
  ·exact(hs.2 b (Nat.ne_of_lt (Nat.lt_of_lt_of_le (Heap.lt_size e) (I.ok.cab x c hfn hc)))).trans (I.base.keep b o e n hb hx)
  ·obtain⟨sl,e1⟩:=I.base.slot b o e n hb hx
   exact⟨sl,(hs.2 b (Nat.ne_of_lt (Nat.lt_of_lt_of_le (Heap.lt_size e) (I.ok.cab x c hfn hc)))).trans e1⟩
  ·obtain⟨o',e1⟩:=I.base.there b o e hx
   exact⟨o',(hs.2 b (Nat.ne_of_lt (Nat.lt_of_lt_of_le (Heap.lt_size e) (I.ok.cab x c hfn hc)))).trans e1⟩
  ·by_cases hj:j=i
   ·subst hj
    rw[hi] at e1;cases e1
    rw[List.getElem?_set_self hiσ] at e2
    cases e2
    exact⟨u,r,.inr ⟨.inl hk,c,hc,hc'⟩⟩
   ·rw[List.getElem?_set_ne (Ne.symm hj)] at e2
    obtain⟨u',r',q⟩:=hl j y v' e1 e2 e3
    refine⟨u',r',?_⟩
    rcases q with q|⟨k,c',e,z'⟩
    ·exact .inl q
    ·refine .inr ⟨k,c',e,z'.sameBut hs ?_⟩
     rintro rfl
     exact hj (Ar hN e1 (I.ok.inj _ _ _ e hc▸hi))
  ·by_cases hcc:c'=c
   ·subst hcc;exact⟨_,hc'⟩
   ·obtain⟨w2,z2⟩:=I.cell y c' e
    exact⟨w2,z2.sameBut hs hcc⟩
  ·obtain⟨e,n,ne,nf,d⟩:=I.pin p hp
   refine⟨(hs.2 p.1 ?_).trans e,n,ne,nf,d⟩
   intro q
   rw[q,hoc] at e
   have q':oc=p.2:=Option.some.inj e
   exact d w' (by rw[<- q'];exact XS)
theorem jE{M:Model}{A:Around}{E:Value->Shared->Prop}{i:Nat}{x:Str}{v:V}{u:Value}{Q:Unit->Shared->Prop}(I:Inv X pins σ H s)(hN:X.N.Nodup)(hi:X.N[i]?=some x)(hx:Loc X.env.scope x)(r:RelV v u)
  (h:∀ s',Inv X pins (σ.set i (some v)) H s'->Q () s') (hf:X.fn x=true\/X.env.scope.names.lookup x=some .local:=by first|exact .inl rfl|exact .inr rfl|assumption):wpAny M A (storeName X.env x u) Q E s:=
 yc I hN hi hx r (fun s' I' _=>h s' I') hf
theorem Inv.call'{s':Shared}{ch:List Addr}(I:Inv X pins σ H s)(ho:s'.os=s.os)(u:Un (frs X.stack) ch H H' s.heap s'.heap)(hok:HOk X.prog X.w H' s'.heap)(hg:AllBare s'.gens)
  (hch:∀ b∈ch,(b∈X.ex\/X.s₀.heap.objs.size<=b)/\b≠X.env.locals/\(∀ x c,X.env.cells.lookup x=some c->c≠b)/\∀ p∈X.pn++pins,p.1≠b):Inv X pins σ H' s':=by
 obtain⟨h',g',d',t',o'⟩:=s'
 have e:o'=s.os:=ho
 subst e
 exact I.call (g':=g') (t':=t') (d':=d') u hok hg hch
end
abbrev XK:=Value->Option Addr->Hp->Prop
abbrev St:=List (Option V)
abbrev VK:=V->Hp->Prop
abbrev TE:=St->Hp->VK->Prop
abbrev TT:=St->Hp->(Bool->Hp->Prop)->Prop
abbrev TA:=St->Hp->(List V->Hp->Prop)->Prop
structure Ends where
 nx:St->Hp->Prop
 rt:VK
 bk:St->Hp->Prop:=fun _ _=>False
 ct:St->Hp->Prop:=fun _ _=>False
abbrev TS:=Ends->St->Hp->Prop
def EP(X:Cx)(pins:List (Addr×Obj))(σ:St)(Q:VK)(u:Value)(s':Shared):Prop:=∃ v H',Inv X pins σ H' s'/\RelV v u/\Q v H'
def TP(X:Cx)(pins:List (Addr×Obj))(σ:St)(Q:Bool->Hp->Prop)(b:Bool)(s':Shared):Prop:=∃ H',Inv X pins σ H' s'/\Q b H'
def AP(X:Cx)(pins:List (Addr×Obj))(σ:St)(Q:List V->Hp->Prop)(us:List Value)(s':Shared):Prop:=∃ vs H',Inv X pins σ H' s'/\Vals vs us/\Q vs H'
def SP(X:Cx)(pins:List (Addr×Obj))(D:Ends)(f:Flow)(s':Shared):Prop:=
 match f with
 |.next=>∃ σ' H',Inv X pins σ' H' s'/\D.nx σ' H'
 |.brk=>∃ σ' H',Inv X pins σ' H' s'/\D.bk σ' H'
 |.cont=>∃ σ' H',Inv X pins σ' H' s'/\D.ct σ' H'
 |.ret u=>∃ v σ' H',Inv X pins σ' H' s'/\RelV v u/\D.rt v H'
def PE(X:Cx)(e:Expr)(t:TE):Prop:=
 ∀(pins:List (Addr×Obj))(s:Shared)(σ:St)(H:Hp)(Q:VK),Inv X pins σ H s->t σ H Q->wpAny (model X.prog X.w) X.A (eval e X.env) (EP X pins σ Q) X.xe s
def PT(X:Cx)(e:Expr)(t:TT):Prop:=
 ∀(pins:List (Addr×Obj))(s:Shared)(σ:St)(H:Hp)(Q:Bool->Hp->Prop),Inv X pins σ H s->t σ H Q->wpAny (model X.prog X.w) X.A (isTrue e X.env (eval e X.env)) (TP X pins σ Q) X.xe s
def PW(X:Cx)(e:Expr)(t:TT):Prop:=
 ∀(whole:Sem Value)(pins:List (Addr×Obj))(s:Shared)(σ:St)(H:Hp)(Q:Bool->Hp->Prop),Inv X pins σ H s->t σ H Q->wpAny (model X.prog X.w) X.A (isTrue e X.env whole) (TP X pins σ Q) X.xe s
theorem PW.pt{X:Cx}{e:Expr}{t:TT}(h:PW X e t):PT X e t:=h _
def PA(X:Cx)(es:List Expr)(t:TA):Prop:=
 ∀(pos:Pos)(pins:List (Addr×Obj))(s:Shared)(σ:St)(H:Hp)(Q:List V->Hp->Prop),Inv X pins σ H s->t σ H Q->wpAny (model X.prog X.w) X.A (spliced (backTo pos (starEach es X.env))) (AP X pins σ Q) X.xe s
def PS(X:Cx)(st:Stmt)(t:TS):Prop:=
 ∀(pins:List (Addr×Obj))(s:Shared)(σ:St)(H:Hp)(D:Ends),Inv X pins σ H s->t D σ H->wpAny (model X.prog X.w) X.A (exec st X.env) (SP X pins D) X.xe s
def PSs(X:Cx)(st:List Stmt)(t:TS):Prop:=
 ∀(pins:List (Addr×Obj))(s:Shared)(σ:St)(H:Hp)(D:Ends),Inv X pins σ H s->t D σ H->wpAny (model X.prog X.w) X.A (execs st X.env) (SP X pins D) X.xe s
theorem thn{α:Type}{t:Sem α}{Q Q':α->Shared->Prop}{M:Model}{A:Around}{E:Value->Shared->Prop}{s:Shared}(h:wpAny M A t Q E s)(hQ:∀ a s,Q a s->Q' a s):wpAny M A t Q' E s:=wpAny_mono h hQ fun _ _ x=>x
end L2
namespace L2
open PySem PySem.Spec PyProof.Rows
section
variable{X:Cx}
def Xg(i:Nat):TE:=fun σ H Q=>∃ v,σ[i]?=some (some v)/\Q v H
def tC(v:V):TE:=fun _ H Q=>Q v H
theorem Us{i:Nat}{x:Str}{pos:Pos}(hN:X.N[i]?=some x)(hv:Vis X.env.scope x) (hd:(x==("__debug__" : Str))=false:=by decide) (hcd:(x==("__classdict__" : Str))=false:=by decide):PE X (.Name x pos) (Xg i):=by
 intro pins s σ H Q I h
 obtain⟨v,e,h⟩:=h
 obtain⟨m,hn,hl⟩:=I.loc
 obtain⟨u,r,l⟩:=hl i x v hN e hv
 have fin:EP X pins σ Q u s:=⟨v,H,I,r,h⟩
 rcases l with⟨hk,hm⟩|⟨hk,c,hc,hcell⟩
 ·exact wpAny_Name (wpAny_loadName_local I.ok.kind hk hn hm fin) hd
 ·rcases hk with hk|hk
  ·exact wpAny_Name (wpAny_loadName_cell I.ok.kind hk hc hcell fin) hd
  ·exact wpAny_Name (wpAny_loadName_free I.ok.kind hk hc hcell fin hcd) hd
theorem Ul {i j pos}:PE X (.Constant (.int i) j pos) (tC (.int i)):=fun _ _ _ H _ I h=>wpAny_Constant_int ⟨.int i,H,I.tok _,⟨_,rfl⟩,h⟩
theorem Wm {b j pos}:PE X (.Constant (.bool b) j pos) (tC (.bl b)):=fun _ _ _ H _ I h=>Constant_bool ⟨.bl b,H,I,rfl,h⟩
theorem Uq {x j pos}:PE X (.Constant (.str x) j pos) (tC (.str x)):=fun _ _ _ H _ I h=>Calls.Constant_str ⟨.str x,H,I.tok _,⟨_,rfl⟩,h⟩
def Gl(X:Cx)(x:Str):Prop:=X.env.kindOf x=some .globalImplicit
theorem nF{E:Value->Shared->Prop}{pins:List (Addr×Obj)}{s:Shared}{σ:St}{H:Hp}{x:Str}{u:Value}{pos:Pos}{Q:Value->Shared->Prop}(I:Inv X pins σ H s)(hg:Gl X x)(hm:X.mg x=some u)(h:Q u s)
  (hd:(x==("__debug__" : Str))=false:=by decide):wpAny (model X.prog X.w) X.A (eval (.Name x pos) X.env) Q E s:=
 Calls.Name_function_global I.ok.kind hg (Calls.loadGlobal_global (by rw[I.ok.glob];exact I.mod.glob.keeps I.bk) hm h) hd
theorem qT{E:Value->Shared->Prop}{pins:List (Addr×Obj)}{s:Shared}{σ:St}{H:Hp}{x:Str}{u:Value}{pos:Pos}{Q:Value->Shared->Prop}(I:Inv X pins σ H s)(hg:Gl X x)(hm:X.mg x=none)(hv:bootBuiltins x=some u)(h:Q u s)
  (hn:x ≠ "__name__":=by decide) (hd:(x==("__debug__" : Str))=false:=by decide):wpAny (model X.prog X.w) X.A (eval (.Name x pos) X.env) Q E s:=by
 obtain⟨mb,h1,h2⟩:=I.mod.blt
 exact Calls.Name_function_global I.ok.kind hg (Calls.loadGlobal_builtin (by rw[I.ok.glob];exact I.mod.glob.keeps I.bk) hm (by rw[I.ok.blt];exact h1.keeps I.bk) ((h2 x hn).trans hv) h) hd
theorem yW{x:Str}{v:V}{u:Value}{pos:Pos}(hg:Gl X x)(hm:X.mg x=some u)(r:RelV v u) (hd:(x==("__debug__" : Str))=false:=by decide):PE X (.Name x pos) (tC v):=
 fun _ _ _ H _ I h=>nF I hg hm ⟨v,H,I,r,h⟩ hd
theorem Q9{x:Str}{v:V}{u:Value}{pos:Pos}(hg:Gl X x)(hm:X.mg x=none)(hv:bootBuiltins x=some u)(r:RelV v u) (hn:x ≠ "__name__":=by decide) (hd:(x==("__debug__" : Str))=false:=by decide):PE X (.Name x pos) (tC v):=
 fun _ _ _ H _ I h=>qT I hg hm hv ⟨v,H,I,r,h⟩ hn hd
variable{a b:Expr}{ta tb:TE}{pos:Pos}
def tB(t:TE):TT:=fun σ H Q=>t σ H fun x H1=>∃ c,x=.bl c/\Q c H1
theorem V1{e:Expr}{t:TE}(h:PE X e t)(he:∀ whole,isTrue e X.env whole=(do let v <- whole;standAt e.pos;holding [v] (truthy v)):=by intro _;rfl):PT X e (tB t):=by
 intro pins s σ H Q I hw
 refine isTrue_plain (thn (h pins s σ H _ I hw) fun v s1 ⟨x,H1,I1,r1,q1⟩=>?_) (he _)
 obtain⟨d,rfl,q⟩:=q1
 cases r1
 exact wpAny_truthy_bool ⟨H1,I1,q⟩
variable{tA tB':TT}{rest:List Expr}
def Xa(t u:TT):TT:=fun σ H Q=>t σ H fun c H1=>if c=true then u σ H1 Q else Q false H1
def tOr(t u:TT):TT:=fun σ H Q=>t σ H fun c H1=>if c=true then Q true H1 else u σ H1 Q
def Xc(t:TT):TT:=fun σ H Q=>t σ H fun c H1=>Q (!c) H1
theorem pw_and1(ha:PT X a tA):PW X (.BoolOp .And [a] pos) tA:=by
 intro wh pins s σ H Q I h
 refine isTrue_and (thn (ha pins s σ H Q I h) fun c s1 e=>?_)
 cases c with
 |true=>exact isTrue_and_nil e
 |false=>exact e
theorem pw_or1(ha:PT X a tA):PW X (.BoolOp .Or [a] pos) tA:=by
 intro wh pins s σ H Q I h
 refine isTrue_or (thn (ha pins s σ H Q I h) fun c s1 e=>?_)
 cases c with
 |false=>exact isTrue_or_nil e
 |true=>exact e
theorem pw_and(ha:PT X a tA)(hb:PW X (.BoolOp .And (b::rest) pos) tB'):PW X (.BoolOp .And (a::b::rest) pos) (Xa tA tB'):=by
 intro wh pins s σ H Q I h
 refine isTrue_and (thn (ha pins s σ H _ I h) fun c s1 ⟨H1,I1,q1⟩=>?_)
 cases c with
 |true=>exact hb wh pins s1 σ H1 Q I1 q1
 |false=>exact⟨H1,I1,q1⟩
theorem pw_or(ha:PT X a tA)(hb:PW X (.BoolOp .Or (b::rest) pos) tB'):PW X (.BoolOp .Or (a::b::rest) pos) (tOr tA tB'):=by
 intro wh pins s σ H Q I h
 refine isTrue_or (thn (ha pins s σ H _ I h) fun c s1 ⟨H1,I1,q1⟩=>?_)
 cases c with
 |true=>exact⟨H1,I1,q1⟩
 |false=>exact hb wh pins s1 σ H1 Q I1 q1
theorem V0(ha:PT X a tA):PT X (.UnaryOp .Not a pos) (Xc tA):=by
 intro pins s σ H Q I h
 exact isTrue_not (ha pins s σ H (fun c H1=>Q (!c) H1) I h)
def RL(ta tb:TE):TE:=fun σ H Q=>ta σ H fun x H1=>∃ c,x=.bl c/\if c=true then tb σ H1 Q else Q (.bl false) H1
theorem Uo {op} {t:TE} (h:PE X a t):PE X (.BoolOp op [a] pos) t:=fun pins s σ H Q I hw=>BoolOp_one (h pins s σ H Q I hw)
theorem Uh(ha:PE X a ta)(hb:PE X (.BoolOp .And (b::rest) pos) tb):PE X (.BoolOp .And (a::b::rest) pos) (RL ta tb):=by
 intro pins s σ H Q I h
 refine BoolOp_and (thn (ha pins s σ H _ I h) fun v s1 ⟨x,H1,I1,r1,q1⟩=>?_)
 obtain⟨c,rfl,q1⟩:=q1
 cases r1
 refine wpAny_truthy_bool ?_
 cases c with
 |true=>exact hb pins s1 σ H1 Q I1 q1
 |false=>exact⟨.bl false,H1,I1,rfl,q1⟩
end
end L2
namespace L2
open PySem PySem.Spec PyProof.Rows
def SqL(K:PySem.W.Frag)(H:Hp)(a:Addr)(xs:List V):Prop:=
 Rd H a (.lst xs) \/
  ∃(o:Obj)(its:Array Value)(n:Nat),K.lookup a=some o/\o.cls=.type "list" /\ o.dict=none/\o.data=.seq its n/\its.size<=sizeLine/\Vals xs its.toList
def SqT(K:PySem.W.Frag)(H:Hp)(a:Addr)(xs:List V):Prop:=
 Rd H a (.tup xs) \/
  ∃(o:Obj)(its:Array Value)(n:Nat),K.lookup a=some o/\o.cls=.type "tuple" /\ o.data=.seq its n/\its.size<=sizeLine/\Vals xs its.toList
def Xx:Value->Option V
 |.none=>some .non
 |.bool b=>some (.bl b)
 |.int i _=>some (.int i)
 |.str x _=>some (.str x)
 |.bytes b _=>some (.byt b)
 |.float b _=>some (.flt b)
 |.ref a=>some (.ref a)
 |.type n=>some (.ty n)
 |_=>none
theorem RelV.abs{x:V}{u:Value}(r:RelV x u):Xx u=some x:=by
 cases x with
 |non=>cases r;rfl
 |bl _=>cases r;rfl
 |int _=>obtain⟨t,rfl⟩:=r;rfl
 |str _=>obtain⟨t,rfl⟩:=r;rfl
 |byt _=>obtain⟨t,rfl⟩:=r;rfl
 |flt _=>obtain⟨t,rfl⟩:=r;rfl
 |ref _=>cases r;rfl
 |ty _=>cases r;rfl
theorem RelV.inj{x y:V}{u:Value}(r:RelV x u)(q:RelV y u):x=y:=Option.some.inj (r.abs.symm.trans q.abs)
theorem Vals.inj:∀ {xs ys:List V} {us:List Value},Vals xs us->Vals ys us->xs=ys
 |_,_,_,.nil,.nil=>rfl
 |_,_,_,.cons r t,.cons r' t'=>by rw[r.inj r',Vals.inj t t']
section
variable{X:Cx}{pins:List (Addr×Obj)}{σ:St}{H:Hp}{s:Shared}{a:Addr}{xs ys:List V}
theorem SqL.of{K:PySem.W.Frag}(h:H a=some (.lst xs)):SqL K H a xs:=.inl (.inl h)
theorem SqT.of{K:PySem.W.Frag}(h:H a=some (.tup xs)):SqT K H a xs:=.inl (.inl h)
theorem Inv.list(I:Inv X pins σ H s)(h:SqL X.K H a xs):∃ its:List Value,Vals xs its/\PlainL s.heap a its.toArray/\xs.length<=sizeLine:=by
 rcases h with h|⟨o,its,n,hk,hc,hd,hs,hz,r⟩
 ·obtain⟨z,its,n,r,e⟩:=h.ok I.hok
  exact⟨its,r,⟨_,n,e,rfl,rfl,rfl⟩,z⟩
 ·refine⟨its.toList,r,⟨o,n,I.kIn a o hk,hc,hd,by simpa using hs⟩,?_⟩
  have e:=r.length
  simp only[Array.length_toList] at e
  lia
theorem Inv.tuple(I:Inv X pins σ H s)(h:SqT X.K H a xs):∃ its:List Value,Vals xs its/\IsTup s.heap a its.toArray/\xs.length<=sizeLine:=by
 rcases h with h|⟨o,its,n,hk,hc,hs,hz,r⟩
 ·obtain⟨z,its,r,p⟩:=h.ok I.hok
  exact⟨its,r,p,z⟩
 ·refine⟨its.toList,r,⟨o,I.kIn a o hk,hc,n,by simpa using hs⟩,?_⟩
  have e:=r.length
  simp only[Array.length_toList] at e
  lia
theorem Inv.vh(I:Inv X pins σ H s)(h:SqL X.K H a xs)(h':SqL X.K H a ys):xs=ys:=by
 obtain⟨its,r,⟨o,n,e,_,_,d⟩,_⟩:=I.list h
 obtain⟨its',r',⟨o',n',e',_,_,d'⟩,_⟩:=I.list h'
 rw[e] at e';cases e'
 rw[d] at d'
 injection d' with d1 _
 have:its=its':=by simpa using congrArg Array.toList d1
 subst this
 exact r.inj r'
theorem Inv.Jr(I:Inv X pins σ H s)(h:SqT X.K H a xs)(h':SqT X.K H a ys):xs=ys:=by
 obtain⟨its,r,⟨o,e,_,n,d⟩,_⟩:=I.tuple h
 obtain⟨its',r',⟨o',e',_,n',d'⟩,_⟩:=I.tuple h'
 rw[e] at e';cases e'
 rw[d] at d'
 injection d' with d1 _
 have:its=its':=by simpa using congrArg Array.toList d1
 subst this
 exact r.inj r'
end
abbrev Cx.wish(X:Cx)(E:Value->Shared->Prop):Cx:={ X with xe:=E }
abbrev Cx.nox(X:Cx):Cx:=X.wish fun _ _=>False
theorem Cx.Ok.wish{X:Cx}(ok:X.Ok)(E:Value->Shared->Prop):(X.wish E).Ok:=
 ⟨ok.mod,ok.kind,ok.glob,ok.blt,ok.above,ok.inj,ok.has,ok.cab,ok.hd,ok.frames,ok.stk,ok.exf,ok.bs,ok.bsz,ok.Im,ok.Kc,ok.pD,ok.frf⟩
theorem Cx.Ok.iw{X:Cx}{E:Value->Shared->Prop}(ok:(X.wish E).Ok):X.Ok:=
 ⟨ok.mod,ok.kind,ok.glob,ok.blt,ok.above,ok.inj,ok.has,ok.cab,ok.hd,ok.frames,ok.stk,ok.exf,ok.bs,ok.bsz,ok.Im,ok.Kc,ok.pD,ok.frf⟩
section
variable{X:Cx}{pins:List (Addr×Obj)}{σ:St}{H:Hp}{s:Shared}{E:Value->Shared->Prop}
theorem Inv.wish(I:Inv X pins σ H s)(E:Value->Shared->Prop):Inv (X.wish E) pins σ H s:=⟨I.ok.wish E,I.os,I.bare,I.base,I.loc,I.cell,I.free,I.iC,I.pin,I.hok,I.len⟩
theorem Inv.iw(I:Inv (X.wish E) pins σ H s):Inv X pins σ H s:=⟨I.ok.iw,I.os,I.bare,I.base,I.loc,I.cell,I.free,I.iC,I.pin,I.hok,I.len⟩
theorem SP.iw{D:Ends}{f:Flow}{s':Shared}(h:SP (X.wish E) pins D f s'):SP X pins D f s':=by
 cases f with
 |next=>obtain⟨σ',H',I,q⟩:=h;exact⟨σ',H',I.iw,q⟩
 |brk=>obtain⟨σ',H',I,q⟩:=h;exact⟨σ',H',I.iw,q⟩
 |cont=>obtain⟨σ',H',I,q⟩:=h;exact⟨σ',H',I.iw,q⟩
 |ret u=>obtain⟨v,σ',H',I,r,q⟩:=h;exact⟨v,σ',H',I.iw,r,q⟩
theorem PT.nox{e:Expr}{t:TT}(h:PT X.nox e t):PT X e t:=fun pins s σ H Q I hw=>
 wpAny_mono (h pins s σ H Q (I.wish _) hw) (fun _ _ ⟨H',I',q⟩=>⟨H',I'.iw,q⟩) fun _ _ z=>False.elim z
theorem PSs.nox{st:List Stmt}{t:TS}(h:PSs X.nox st t):PSs X st t:=fun pins s σ H D I hw=>
 wpAny_mono (h pins s σ H D (I.wish _) hw) (fun _ _ q=>q.iw) fun _ _ z=>False.elim z
end
section
variable{X:Cx}{st:Stmt}{rest:List Stmt}{t u:TS}{e:Expr}{te:TE}{pos:Pos}
def RP:TS:=fun D σ H=>D.nx σ H
def Vm(t u:TS):TS:=fun D σ H=>t { D with nx:=u D } σ H
theorem Qv:PSs X [] RP:=fun _ _ σ H _ I h=>wpAny_execs_nil ⟨σ,H,I,h⟩
theorem M4(h1:PS X st t)(h2:PSs X rest u):PSs X (st::rest) (Vm t u):=by
 intro pins s σ H D I h
 refine wpAny_execs_cons (thn (h1 pins s σ H { D with nx:=u D } I h) fun f s1 q=>?_)
 cases f with
 |next=>
  obtain⟨σ',H',I',q⟩:=q
  exact h2 pins s1 σ' H' D I' q
 |ret v=>exact q
 |brk=>exact q
 |cont=>exact q
theorem Qw(h1:PS X st t):PSs X [st] t:=by
 intro pins s σ H D I h
 refine wpAny_execs_cons (thn (h1 pins s σ H D I h) fun f s1 q=>?_)
 cases f with
 |next=>exact wpAny_execs_nil q
 |ret v=>exact q
 |brk=>exact q
 |cont=>exact q
theorem Inv.quiet{pins:List (Addr×Obj)}{σ:St}{H:Hp}{s:Shared}(I:Inv X pins σ H s):interactive X.env=false:=by simp[interactive,I.ok.kind]
def RN(te:TE):TS:=fun D σ H=>te σ H fun _ H1=>D.nx σ H1
theorem Qu(he:PE X e te)(hs:swapsWith e none pos.line X.env=pure false:=by rfl):PS X (.Expr e pos) (RN te):=by
 intro pins s σ H D I h
 exact wpAny_Expr_any (thn (he pins s σ H _ I h) fun v s1 ⟨x,H1,I1,r1,q1⟩=>⟨σ,H1,I1,q1⟩) I.quiet hs
def Xe(te:TE):TS:=fun D σ H=>te σ H D.rt
theorem UJ(he:PE X e te):PS X (.Return (some e) pos) (Xe te):=by
 intro pins s σ H D I h
 exact wpAny_Return_some (thn (he pins s σ H _ I h) fun v s1 ⟨x,H1,I1,r1,q1⟩=>⟨x,σ,H1,I1,r1,q1⟩)
def Xb(c:TT)(t u:TS):TS:=fun D σ H=>c σ H fun b H1=>if b=true then t D σ H1 else u D σ H1
theorem Ww{c:Expr}{a b:List Stmt}{tc:TT}(hc:PT X c tc)(ha:PSs X a t)(hb:PSs X b u):PS X (.If c a b pos) (Xb tc t u):=by
 intro pins s σ H D I h
 refine wpAny_If (thn (hc pins s σ H _ I h) fun d s1 ⟨H1,I1,q1⟩=>?_)
 cases d with
 |true=>exact ha pins s1 σ H1 D I1 q1
 |false=>exact hb pins s1 σ H1 D I1 q1
end
abbrev TG:=V->St->Hp->(St->Hp->Prop)->Prop
abbrev TGs:=List V->St->Hp->(St->Hp->Prop)->Prop
def PG(X:Cx)(target:Expr)(t:TG):Prop:=
 ∀(pins:List (Addr×Obj))(s:Shared)(σ:St)(H:Hp)(v:V)(u:Value)(Q:St->Hp->Prop),Inv X pins σ H s->RelV v u->t v σ H Q ->
  wpAny (model X.prog X.w) X.A (assign target X.env u) (fun _ s'=>∃ σ' H',Inv X pins σ' H' s'/\Q σ' H') X.xe s
def PGs(X:Cx)(ts:List Expr)(t:TGs):Prop:=
 ∀(pins:List (Addr×Obj))(s:Shared)(σ:St)(H:Hp)(vs:List V)(us:List Value)(Q:St->Hp->Prop),Inv X pins σ H s->Vals vs us->t vs σ H Q ->
  wpAny (model X.prog X.w) X.A (assignInOrder ((assignEach ts X.env).map (·.2)) us) (fun _ s'=>∃ σ' H',Inv X pins σ' H' s'/\Q σ' H') X.xe s
abbrev O9:=V->V->V->Hp->(Hp->Prop)->Prop
def O7(X:Cx)(t:O9):Prop:=
 ∀(pins:List (Addr×Obj))(s:Shared)(σ:St)(H:Hp)(o i v:V)(ov iv u:Value)(Q:Hp->Prop),Inv X pins σ H s->RelV o ov->RelV i iv->RelV v u->t o i v H Q ->
  wpAny (model X.prog X.w) X.A (setItem ov iv u) (fun _ s'=>∃ H',Inv X pins σ H' s'/\Q H') X.xe s
section
variable{X:Cx}{pos:Pos}
def xH(i:Nat):TG:=fun v σ H Q=>Q (σ.set i (some v)) H
theorem Qi{i:Nat}{x:Str}(hN:X.N.Nodup)(hi:X.N[i]?=some x)(hx:Loc X.env.scope x)(hf:X.fn x=true\/X.env.scope.names.lookup x=some .local:=by first|exact .inl rfl|exact .inr rfl|assumption):PG X (.Name x pos) (xH i):=by
 intro pins s σ H v u Q I r h
 exact wpAny_assign_Name (jE I hN hi hx r (fun s' I'=>⟨_,H,I',h⟩) hf)
def SX:TGs:=fun vs σ H Q=>vs=[]/\Q σ H
def FQ(t:TG)(u:TGs):TGs:=fun vs σ H Q=>∃ v r,vs=v::r/\t v σ H fun σ' H'=>u r σ' H' Q
theorem Qj:PGs X [] SX:=by
 intro pins s σ H vs us Q I r h
 obtain⟨e,h⟩:=h
 subst e
 cases r
 exact assignInOrder_nil ⟨σ,H,I,h⟩
theorem Lz{e:Expr}{es:List Expr}{t:TG}{u:TGs}(h1:PG X e t)(h2:PGs X es u)
  (hs:(assignEach (e::es) X.env).map (·.2)=assign e X.env::(assignEach es X.env).map (·.2):=by rfl):PGs X (e::es) (FQ t u):=by
 intro pins s σ H vs us Q I r h
 obtain⟨v,vr,e1,h⟩:=h
 subst e1
 cases r with
 |cons r rr=>
  rw[hs]
  refine assignInOrder_cons (thn (h1 pins s σ H _ _ _ I r h) fun _ s1 ⟨σ1,H1,I1,q1⟩=>?_)
  exact h2 pins s1 σ1 H1 _ _ Q I1 rr q1
def T3(K:PySem.W.Frag)(n:Nat)(t:TGs):TG:=fun v σ H Q=>∃ a xs,v=.ref a/\SqT K H a xs/\xs.length=n/\t xs σ H Q
theorem Uu{es:List Expr}{k:Nat}{t:TGs}{n:Nat}(hc:X.calm=true)(h:PGs X es t)
  (hn:(assignEach es X.env).length=n:=by rfl) (hst:(assignEach es X.env).findIdx? (·.1)=none:=by rfl):PG X (.Tuple es k pos) (T3 X.K n t):=by
 intro pins s σ H v u Q I r hw
 obtain⟨a,xs,e1,hq,hl,hw⟩:=hw
 subst e1
 cases r
 obtain⟨its,rv,ht,hz⟩:=I.tuple hq
 refine assign_Tuple_tuple (I.ok.hd hc) ht (by simp[hn,<- hl,rv.length]) hst fun h' hx=>?_
 have I1:Inv X pins σ H { s with heap:=h' }:=I.kept (t':=s.toks) fun b o e=>hx b o (Nat.ne_of_lt (Heap.lt_size e)) e
 exact h pins _ σ H xs _ Q I1 (by simpa using rv) hw
def W2(to ti:TE)(t:O9):TG:=fun v σ H Q=>to σ H fun o H1=>ti σ H1 fun i H2=>t o i v H2 fun H3=>Q σ H3
theorem Ut{o i:Expr}{to ti:TE}{t:O9}(ho:PE X o to)(hi:PE X i ti)(hs:O7 X t)
  (ha:∀ v,assign (.Subscript o i pos) X.env v=(do
   let ov <- holding [v] (eval o X.env)
   let iv <- holding [v,ov] (eval i X.env)
   standAt pos
   holding [v,ov,iv] (setItem ov iv v)
   release [v,ov,iv] []):=by intro _;rfl):PG X (.Subscript o i pos) (W2 to ti t):=by
 intro pins s σ H v u Q I r h
 rw[ha]
 refine wpAny_bind (wpAny_holding (thn (ho pins s σ H _ I h) fun ov s1 ⟨x,H1,I1,r1,q1⟩=>?_))
 refine wpAny_bind (wpAny_holding (thn (hi pins s1 σ H1 _ I1 q1) fun iv s2 ⟨y,H2,I2,r2,q2⟩=>?_))
 refine wpAny_bind (wpAny_standAt (wpAny_bind (wpAny_holding (thn (hs pins s2 σ H2 x y v ov iv u _ I2 r1 r2 r q2) fun _ s3 ⟨H3,I3,q3⟩=>?_))))
 exact wpAny_release ⟨σ,H3,I3,q3⟩
def R5(te:TE)(g:TG):TS:=fun D σ H=>te σ H fun x H1=>g x σ H1 D.nx
theorem Ux{tg e:Expr}{te:TE}{g:TG}(he:PE X e te)(hg:PG X tg g)(hs:swapsWithSole [tg] e pos.line X.env=pure false:=by rfl)(hw:swappedStores [tg] e X.env=pure none:=by rfl)
  (h1:(assignEach [tg] X.env).map (·.2)=[assign tg X.env]:=by rfl):PS X (.Assign [tg] e pos) (R5 te g):=by
 intro pins s σ H D I h
 refine wpAny_Assign_stores (thn (he pins s σ H _ I h) fun v s1 ⟨x,H1,I1,r1,q1⟩=>?_) hs hw
 rw[h1]
 exact thn (hg pins s1 σ H1 x v _ I1 r1 q1) fun _ s2 q=>q
theorem UL{i:Nat}{x:Str}{e:Expr}{te:TE}{pos':Pos}(hN:X.N.Nodup)(hi:X.N[i]?=some x)(hx:Loc X.env.scope x)(he:PE X e te)(hs:swapsWith e (some (.Name x pos')) pos.line X.env=pure false:=by rfl)(hf:X.fn x=true\/X.env.scope.names.lookup x=some .local:=by first|exact .inl rfl|exact .inr rfl|assumption) :
  PS X (.Assign [.Name x pos'] e pos) (R5 te (xH i)):=by
 intro pins s σ H D I h
 refine wpAny_Assign_Name (thn (he pins s σ H _ I h) fun v s1 ⟨y,H1,I1,r1,q1⟩=>?_) hs
 exact jE I1 hN hi hx r1 (fun s2 I2=>⟨_,H1,I2,q1⟩) hf
def Xd(i j:Nat)(ta:TA):TS:=fun D σ H=>ta σ H fun vs H1=>∃ v w,vs=[v,w]/\D.nx ((σ.set i (some v)).set j (some w)) H1
theorem UG{i j:Nat}{x y:Str}{a b:Expr}{ta:TA}{px py pt:Pos} {kt k2 pt2} (hc:X.calm=true) (hN:X.N.Nodup) (hi:X.N[i]?=some x) (hj:X.N[j]?=some y) (hij:i≠j)
  (hx:X.env.scope.names.lookup x=some .local) (hy:X.env.scope.names.lookup y=some .local) (ha:PA X [a,b] ta)
  (hw:swappedStores [.Tuple [.Name x px,.Name y py] kt pt] (.Tuple [a,b] k2 pt2) X.env=pure (some [x,y]))
  (hs:swapsWithSole [.Tuple [.Name x px,.Name y py] kt pt] (.Tuple [a,b] k2 pt2) pos.line X.env=pure false:=by rfl) :
  PS X (.Assign [.Tuple [.Name x px,.Name y py] kt pt] (.Tuple [a,b] k2 pt2) pos) (Xd i j ta):=by
 intro pins s σ H D I h
 rw[exec_Assign_arm]
 refine wpAny_bind (wpAny_standAt ?_)
 rw[hs]
 refine wpAny_bind (wpAny_pure ?_)
 rw[if_neg (by decide)]
 refine wpAny_bind (Tuple_ (thn (ha _ pins s σ H _ I h) fun us s1 ⟨vs,H1,I1,r1,q1⟩=>?_))
 obtain⟨v,w,e1,q1⟩:=q1
 subst e1
 obtain⟨u1,u2,rfl,rv,rw'⟩:∃ u1 u2,us=[u1,u2]/\RelV v u1/\RelV w u2:=by
  cases r1 with
  |cons p q=>
   cases q with
   |cons p' q'=>
    cases q'
    exact⟨_,_,rfl,p,p'⟩
 refine wpAny_newObj_type ?_ (by show 2<=sizeLine;decide)
 have I2:Inv X pins σ H1 { s1 with heap:=s1.heap.push { cls:=.type "tuple",data:=.seq [u1,u2].toArray } }:=I1.kept (t':=s1.toks) fun b o e=>Heap.get?_push_of_some _ e
 rw[hw]
 refine wpAny_bind (wpAny_pure ?_)
 show wpAny (model X.prog X.w) X.A (do rule "assign.swapped-stores";let items <- unpackItems (.ref s1.heap.objs.size) 2 none;assignInOrder [fun v=>bindName X.env y v,fun v=>bindName X.env x v] items.reverse;pure Flow.next) _ _ _
 refine wpAny_bind (wpAny_rule (wpAny_bind (unpackItems_tuple (items:=#[u1,u2]) (I.ok.hd hc) (IsTup.new s1.heap _) fun h' hx'=>?_)))
 have I3:=I2.kept (h':=h') (t':=s1.toks) fun b o e=>hx' b o (Nat.ne_of_lt (Heap.lt_size e)) e
 show wpAny _ _ (assignInOrder [fun v=>bindName X.env y v,fun v=>bindName X.env x v] [u2,u1] >>= fun _=>pure Flow.next) _ _ _
 refine wpAny_bind (assignInOrder_cons (wpAny_bindName (jE I3 hN hj (.inl hy) rw' (fun s2 I4=>?_) (.inr hy))))
 refine assignInOrder_cons (wpAny_bindName (jE I4 hN hi (.inl hx) rv (fun s3 I5=>assignInOrder_nil (wpAny_pure ?_)) (.inr hx)))
 rw[List.set_comm _ _ (Ne.symm hij)] at I5
 exact⟨_,H1,I5,q1⟩
end
section
variable{X:Cx}{pos:Pos}
def NP(c:TT)(tb:TS):TS:=fun D σ H=>∃ W:Nat->St->Hp->Prop,(∃ m,W m σ H)/\∀ m σ H,W m σ H ->
 c σ H fun b H1=>if b=true then ∃ N:St->Hp->Prop,(∀ σ' H',N σ' H'->∃ m',m'<m/\W m' σ' H')/\tb { D with nx:=N,ct:=N,bk:=D.nx } σ H1 else D.nx σ H1
theorem LR{c:Expr}{body:List Stmt}{tc:TT}{tb:TS}(hp:PassesOwn (model X.prog X.w) X.A X.env X.xe)(hc:PT X c tc)(hb:PSs X body tb):PS X (.While c body [] pos) (NP tc tb):=by
 intro pins s σ H D I h
 obtain⟨W,⟨m0,w0⟩,turn⟩:=h
 refine wpAny_While (codeAny_whileLoop (fun n s'=>∃ σ' H',Inv X pins σ' H' s'/\W n σ' H') ?_ m0 ⟨σ,H,I,w0⟩)
 rintro n s1 ⟨σ1,H1,I1,w1⟩
 refine wpAny_passesOwn hp (thn (hc pins s1 σ1 H1 _ I1 (turn n σ1 H1 w1)) fun b s2 ⟨H2,I2,q2⟩=>?_)
 cases b with
 |true=>
  obtain⟨N,hN,q2⟩:=q2
  rw[if_pos rfl]
  refine wpAny_passesOwn hp (thn (hb pins s2 σ1 H2 _ I2 q2) fun f s3 q3=>?_)
  cases f with
  |next=>
   obtain⟨σ3,H3,I3,n3⟩:=q3
   obtain⟨m',hm,w3⟩:=hN σ3 H3 n3
   exact⟨m',hm,σ3,H3,I3,w3⟩
  |cont=>
   obtain⟨σ3,H3,I3,n3⟩:=q3
   obtain⟨m',hm,w3⟩:=hN σ3 H3 n3
   exact⟨m',hm,σ3,H3,I3,w3⟩
  |brk=>exact q3
  |ret v=>exact q3
 |false=>
  rw[if_neg Bool.false_ne_true]
  exact wpAny_execs_nil ⟨σ1,H2,I2,q2⟩
end
structure It where
 go:Nat->Hp->Prop
 yld:Nat->Hp->V->Hp->Prop
 stop:Nat->Hp->Prop
def nP(X:Cx)(pins:List (Addr×Obj))(H:Hp)(b:Addr):Prop:=
 H b=none/\b≠X.env.locals/\b∉X.fs/\(b∈X.ex\/X.s₀.heap.objs.size<=b)/\(∀ x c,X.env.cells.lookup x=some c->c≠b)/\∀ p∈X.pn++pins,p.1≠b
theorem Inv.Af{X:Cx}{pins:List (Addr×Obj)}{σ:St}{H H':Hp}{s:Shared}{b:Addr}(I:Inv X pins σ H s)(hb:s.heap.objs.size<=b)(hn:H' b=none):nP X pins H' b:=by
 refine⟨hn,Nat.ne_of_gt (Nat.lt_of_lt_of_le I.lt hb),I.Yi hb,.inr (Nat.le_trans I.sz hb),fun x c e z=>?_,fun p hp z=>?_⟩
 ·obtain⟨v,q⟩:=I.cell x c e
  exact absurd (Nat.lt_of_lt_of_le q.lt (by rw[z];exact hb)) (Nat.lt_irrefl _)
 ·exact absurd (Nat.lt_of_lt_of_le (Heap.lt_size (I.pin p hp).1) (by rw[z];exact hb)) (Nat.lt_irrefl _)
structure Turn(P:Program)(w:World)(K:PySem.W.Frag)(tg:Expr)(J:It)(fp:List Addr)(it:Addr)(tn:Nat->Heap->Prop):Prop where
 mem:it∈fp
 obj:∀ i h,tn i h->∀ b∈fp,∃ o,h.get? b=some o/\∀ v,o.data≠.cell v
 keep:∀ i h h',tn i h->(∀ b∈fp,∀ o,h.get? b=some o->h'.get? b=some o)->tn i h'
 item:∀(X:Cx),X.prog=P->X.w=w->X.K=K->X.calm=true->∀(i:Nat)(pins:List (Addr×Obj))(s:Shared)(σ:St)(H:Hp)(E:Value->Shared->Prop),Inv X pins σ H s->(∀ b∈fp,nP X pins H b)->tn i s.heap->J.go i H ->
  wpAny (model P w) X.A (pyNext (.ref it)) (fun r s1=>∃ u,r=some u /\
   wpAny (model P w) X.A (letOwnedTupleGo tg (.ref it) u) (fun _ s2=>∃ x H',Inv X pins σ H' s2/\RelV x u/\J.yld i H x H'/\tn (i+1) s2.heap/\∀ b∈fp,H' b=none) E s1) E s
 done:∀(X:Cx),X.prog=P->X.w=w->X.K=K->X.calm=true->∀(i:Nat)(pins:List (Addr×Obj))(s:Shared)(σ:St)(H:Hp)(E:Value->Shared->Prop),Inv X pins σ H s->(∀ b∈fp,nP X pins H b)->tn i s.heap->J.stop i H ->
  wpAny (model P w) X.A (pyNext (.ref it)) (fun r s1=>r=none/\Inv X pins σ H s1) E s
 self:∀(A:Around)(i:Nat)(s:Shared)(Q:Value->Shared->Prop)(E:Value->Shared->Prop),tn i s.heap->Q (.ref it) s->wpAny (model P w) A (pyIter (.ref it)) Q E s
abbrev TI:=St->Hp->(It->Hp->Prop)->Prop
def PIE(X:Cx)(pins:List (Addr×Obj))(σ:St)(tg:Expr)(R:It->Hp->Prop)(itv:Value)(s2:Shared):Prop:=
 ∃(it:Addr)(fp:List Addr)(tn:Nat->Heap->Prop)(J:It)(H':Hp),itv=.ref it/\Inv X pins σ H' s2/\Turn X.prog X.w X.K tg J fp it tn/\tn 0 s2.heap/\(∀ b∈fp,nP X pins H' b)/\R J H'
def PI(X:Cx)(tg iter:Expr)(wi:TI):Prop:=
 ∀(pins:List (Addr×Obj))(s:Shared)(σ:St)(H:Hp)(R:It->Hp->Prop),Inv X pins σ H s->wi σ H R ->
  wpAny (model X.prog X.w) X.A (eval iter X.env) (fun v s1=>wpAny (model X.prog X.w) X.A (pyIter v) (PIE X pins σ tg R) X.xe s1) X.xe s
theorem FT{M:Model}{A:Around}{E:Value->Shared->Prop}{s:Shared}{tg:Expr}{it:Addr}{u:Value}{o:Obj}{n:String}{vs:Array Value}{Q:Unit->Shared->Prop}(ho:s.heap.get? it=some o)(hc:o.cls=.type n)(hd:o.data=.fields vs)
  (hn:["enumerate","zip","dict_itemiterator","dict_reverseitemiterator","odict_iterator","itertools.zip_longest","itertools.pairwise"].contains n=false) (hQ:Q () s):wpAny M A (letOwnedTupleGo tg (.ref it) u) Q E s:=by
 unfold letOwnedTupleGo
 cases tg<;>first
  |exact wpAny_pure hQ
  |(cases u<;>first
    |exact wpAny_pure hQ
    |(refine wpAny_bind (wpAny_load ho ?_)
      rw[hc,hd]
      show wpAny M A (if(["enumerate","zip","dict_itemiterator","dict_reverseitemiterator","odict_iterator","itertools.zip_longest","itertools.pairwise"].contains n&&vs[0]?==some (rawInt _))=true then _ else _) Q E s
      rw[if_neg (by intro h;rw[hn,Bool.false_and] at h;cases h)]
      exact wpAny_pure hQ))
def Itl(K:PySem.W.Frag)(a:Addr):It:=
 ⟨fun i H=>∃ xs x,SqL K H a xs/\xs[i]?=some x,fun i H x H'=>H'=H/\∀ xs,SqL K H a xs->xs[i]?=some x,fun i H=>∃ xs,SqL K H a xs/\xs.length<=i⟩
def Itr(lo:Int)(n:Nat):It:=⟨fun i _=>i<n,fun i H x H'=>H'=H/\x=.int (lo+i),fun i _=>n<=i⟩
theorem Jt{P:Program}{w:World}{K:PySem.W.Frag}{tg:Expr}(a it:Addr):Turn P w K tg (Itl K a) [it] it (fun i h=>h.IsListIter it a i) where
 mem:=by simp
 obj:=fun i h st b hb=>by
  have e:b=it:=by simpa using hb
  subst e
  obtain⟨o,e,c,d⟩:=st
  exact⟨o,e,fun v z=>by rw[d] at z;cases z⟩
 keep:=fun i h h' st k=>st.at fun o e=>k it (by simp) o e
 item:=by
  intro X hP hw hK hc i pins s σ H E I hf st hg
  subst hP hw hK
  obtain⟨xs,x,hq,hx⟩:=hg
  obtain⟨its,rv,p,hz⟩:=I.list hq
  obtain⟨u,hu,ru⟩:=rv.get hx
  obtain⟨f0,f1,f2,f3,f4,f5⟩:=hf it (by simp)
  refine wpAny_pyNext_list_item st p.isList (x:=u) (by simpa using hu) fun h' st' sb=>?_
  have I1:Inv X pins σ H { s with heap:=h' }:=I.turned (t':=s.toks) (fun b o hb e=>(sb.2 b hb).trans e) f0 f1 f3 f4 f5
  obtain⟨o,e,c,d⟩:=id st'
  exact⟨u,rfl,FT (s:={ s with heap:=h' }) e c d (by decide) ⟨x,H,I1,ru,⟨rfl,fun ys hy=>by rw[I.vh hy hq];exact hx⟩,st',fun b hb=>(hf b hb).1⟩⟩
 done:=by
  intro X hP hw hK hc i pins s σ H E I hf st hg
  subst hP hw hK
  obtain⟨xs,hq,hx⟩:=hg
  obtain⟨its,rv,p,hz⟩:=I.list hq
  obtain⟨f0,f1,f2,f3,f4,f5⟩:=hf it (by simp)
  have hl:=rv.length
  exact wpAny_pyNext_list_end (I.ok.hd hc) st p.isList (by simp;lia) fun h' eb=>⟨rfl,I.turned (t':=s.toks) (fun b o hb e=>eb b o hb e) f0 f1 f3 f4 f5⟩
 self:=fun _ _ _ _ _ st h=>wpAny_pyIter_listiter st h
theorem Ep{P:Program}{w:World}{K:PySem.W.Frag}{tg:Expr}(it:Addr)(lo:Int)(n:Nat):Turn P w K tg (Itr lo n) [it] it (fun i h=>IsRangeIter h it (lo+(i:Nat)*1) ((n:Int)-(i:Nat)) 1) where
 mem:=by simp
 obj:=fun i h st b hb=>by
  have e:b=it:=by simpa using hb
  subst e
  exact⟨_,st,fun v z=>by
   have z':Data.fields _=Data.cell v:=z
   cases z'⟩
 keep:=fun i h h' st k=>k it (by simp) _ st
 item:=by
  intro X hP hw hK hc i pins s σ H E I hf st hg
  subst hP hw hK
  obtain⟨f0,f1,f2,f3,f4,f5⟩:=hf it (by simp)
  have W:=Walks.range (prog:=X.prog) (w:=X.w) (I.ok.hd hc) it lo 1 n
  refine W.item i s _ _ hg st fun v h' tk hv st' kk=>?_
  obtain⟨t,rfl⟩:=hv
  have I1:Inv X pins σ H { s with heap:=h',toks:=tk }:=I.turned (fun b o hb e=>kk b o (by simpa using hb) e) f0 f1 f3 f4 f5
  refine⟨_,rfl,FT (s:={ s with heap:=h',toks:=tk }) (n:="range_iterator") st' rfl rfl (by decide) ⟨.int (lo+i),H,I1,⟨t,?_⟩,⟨rfl,rfl⟩,st',fun b hb=>(hf b hb).1⟩⟩
  rw[Int.mul_one]
 done:=by
  intro X hP hw hK hc i pins s σ H E I hf st hg
  subst hP hw hK
  obtain⟨f0,f1,f2,f3,f4,f5⟩:=hf it (by simp)
  exact wpAny_pyNext_range_end (I.ok.hd hc) st (by have:n<=i:=hg;lia) fun h' eb=>⟨rfl,I.turned (t':=s.toks) (fun b o hb e=>eb b o hb e) f0 f1 f3 f4 f5⟩
 self:=fun _ _ _ _ _ st h=>wpAny_pyIter_rangeiter st h
end L2
namespace L2
open PySem PySem.Spec PyProof.Rows
section
variable{X:Cx}{tg:Expr}
def FZ(K:PySem.W.Frag)(tl:TE):TI:=fun σ H R=>tl σ H fun x H1=>∃ a,x=.ref a/\(∃ xs,SqL K H1 a xs)/\R (Itl K a) H1
theorem Qm{l:Expr}{tl:TE}(hl:PE X l tl):PI X tg l (FZ X.K tl):=by
 intro pins s σ H R I h
 refine thn (hl pins s σ H _ I h) fun v s1 ⟨x,H1,I1,r1,q1⟩=>?_
 obtain⟨a,e,⟨xs,hq⟩,q⟩:=q1
 subst e
 cases r1
 obtain⟨its,rv,p,hz⟩:=I1.list hq
 refine wpAny_pyIter_list p.isList ?_
 refine⟨s1.heap.objs.size,[s1.heap.objs.size],_,_,H1,rfl,I1.kept (t':=s1.toks) fun b o e=>Heap.get?_push_of_some _ e,Jt a _,⟨_,Heap.get?_push_size _ rfl,rfl,rfl⟩,fun b hb=>?_,q⟩
 have e:b=s1.heap.objs.size:=by simpa using hb
 subst e
 exact I1.Af (Nat.le_refl _) (I1.hok.fresh (Nat.le_refl _))
theorem Bg{pins:List (Addr×Obj)}{σ:St}{H:Hp}{s:Shared}{R:It->Hp->Prop}{E:Value->Shared->Prop}{lo hi:Int}{t u v:Tok}{tk:Nat}(I:Inv X pins σ H s)(h1 : -(2^62)<=lo)(h2:lo<2^62)(h3 : -(2^62)<=hi)(h4:hi<2^62)
  (q:R (Itr lo (hi-lo).toNat) H):wpAny (model X.prog X.w) X.A (pyIter (.ref s.heap.objs.size)) (PIE X pins σ tg R) E { s with heap:=s.heap.push { cls:=.type "range",data:=.fields #[.int lo t,.int hi u,.int 1 v] },toks:=tk }:=by
 refine wpAny_pyIter_range (IsRange.new ..) (small_one h1 h2 h3 h4) ?_
 have I1:Inv X pins σ H { s with heap:=s.heap.push { cls:=.type "range",data:=.fields #[.int lo t,.int hi u,.int 1 v] },toks:=tk }:=I.kept fun b o e=>Heap.get?_push_of_some _ e
 refine⟨(s.heap.push { cls:=.type "range",data:=.fields #[.int lo t,.int hi u,.int 1 v] }).objs.size,[(s.heap.push { cls:=.type "range",data:=.fields #[.int lo t,.int hi u,.int 1 v] }).objs.size],_,_,H,rfl,
  I1.kept (t':=tk) fun b o e=>Heap.get?_push_of_some _ e,Ep _ lo (hi-lo).toNat,?_,fun b hb=>?_,q⟩
 ·have e1:lo+((0:Nat):Int)*1=lo:=by simp
  have e2:(((hi-lo).toNat:Nat):Int)-((0:Nat):Int)=Builtin.Range.rangeSize lo hi 1:=by rw[rangeSize_one];split<;>lia
  show IsRangeIter _ _ (lo+((0:Nat):Int)*1) ((((hi-lo).toNat:Nat):Int)-((0:Nat):Int)) 1
  rw[e1,e2]
  exact Heap.get?_push_size _ rfl
 ·have e:b=(s.heap.push { cls:=.type "range",data:=.fields #[.int lo t,.int hi u,.int 1 v] }).objs.size:=by simpa using hb
  subst e
  exact I1.Af (Nat.le_refl _) (I1.hok.fresh (Nat.le_refl _))
def Rn(ta:TA):TI:=fun σ H R=>ta σ H fun vs H1=>∃ j:Int,vs=[.int j] /\ -(2^62)<=j/\j<2^62/\R (Itr 0 j.toNat) H1
def Ro(ta:TA):TI:=fun σ H R=>ta σ H fun vs H1=>∃ i j:Int,vs=[.int i,.int j]/\(-(2^62)<=i/\i<2^62 /\ -(2^62)<=j/\j<2^62)/\R (Itr i (j-i).toNat) H1
theorem J4{a:Expr}{ta:TA}{p pos:Pos} (hg:Gl X "range") (hm:X.mg "range" = none) (ha:PA X [a] ta) (hs:starEach [a] X.env=[(false,eval a X.env)]:=by rfl):PI X tg (.Call (.Name "range" p) [a] [] pos) (Rn ta):=by
 intro pins s σ H R I h
 refine Call_ (qT I hg hm boot_range (PyProof.Rows.callWith_type1 (thn (ha pos pins s σ H _ I h) fun us s1 ⟨vs,H1,I1,r1,q1⟩=>?_) hs rfl))
 obtain⟨j,e,q1,q2,q⟩:=q1
 subst e
 cases r1 with
 |cons r rr=>
  cases rr
  obtain⟨t,rfl⟩:=r
  exact call_range_1 (Bg I1 (by lia) (by lia) q1 q2 (by simpa using q))
theorem Ja{a b:Expr}{ta:TA}{p pos:Pos} (hg:Gl X "range") (hm:X.mg "range" = none) (ha:PA X [a,b] ta) (hs:starEach [a,b] X.env=[(false,eval a X.env),(false,eval b X.env)]:=by rfl) (hs2:starEach [b] X.env=[(false,eval b X.env)]:=by rfl) :
  PI X tg (.Call (.Name "range" p) [a,b] [] pos) (Ro ta):=by
 intro pins s σ H R I h
 refine Call_ (qT I hg hm boot_range (PyProof.Rows.callWith_type1 (thn (ha pos pins s σ H _ I h) fun us s1 ⟨vs,H1,I1,r1,q1⟩=>?_) (by rw[hs,hs2]) (by rw[hs2];rfl)))
 obtain⟨i,j,e,⟨q1,q2,q3,q4⟩,q⟩:=q1
 subst e
 cases r1 with
 |cons r rr=>
  cases rr with
  |cons r' rr=>
   cases rr
   obtain⟨t,rfl⟩:=r
   obtain⟨t',rfl⟩:=r'
   exact call_range_2 (Bg I1 q1 q2 q3 q4 q)
def Vk(wi:TI)(g:TG)(tb:TS):TS:=fun D σ H=>wi σ H fun J H1=>∃ W:Nat->Nat->St->Hp->Prop,(∃ m,W 0 m σ H1)/\∀ i m σ H,W i m σ H ->
 (J.stop i H/\D.nx σ H)\/(J.go i H/\∃ N:St->Hp->Prop,(∀ σ' H',N σ' H'->∃ m',m'<m/\W (i+1) m' σ' H')/\∀ x H',J.yld i H x H'->g x σ H' fun σ2 H2=>tb { D with nx:=N,ct:=N,bk:=D.nx } σ2 H2)
def oM(fp:List Addr)(h:Heap):List (Addr×Obj):=fp.filterMap fun b=>(h.get? b).map fun o=>(b,o)
theorem oJ{fp:List Addr}{h:Heap}{b:Addr}{o:Obj}(hb:b∈fp)(e:h.get? b=some o):(b,o)∈oM fp h:=List.mem_filterMap.mpr ⟨b,hb,by rw[e];rfl⟩
theorem Io{fp:List Addr}{h:Heap}{p:Addr×Obj}(hp:p∈oM fp h):p.1∈fp/\h.get? p.1=some p.2:=by
 obtain⟨b,hb,e⟩:=List.mem_filterMap.mp hp
 cases q:h.get? b with
 |none=>rw[q] at e;cases e
 |some o=>
  rw[q] at e
  have e':(b,o)=p:=Option.some.inj e
  subst e'
  exact⟨hb,q⟩
theorem Inv.pinned{pins:List (Addr×Obj)}{σ:St}{H:Hp}{s:Shared}{fp:List Addr}(I:Inv X pins σ H s)(hf:∀ b∈fp,nP X pins H b)(ho:∀ b∈fp,∃ o,s.heap.get? b=some o/\∀ v,o.data≠.cell v):Inv X (pins++oM fp s.heap) σ H s:=
 I.pK fun p hp=>(List.mem_append.mp hp).elim (fun z=>I.pin p (List.mem_append_right _ z)) fun z=>by
  obtain⟨hb,e⟩:=Io z
  obtain⟨f0,f1,f2,_⟩:=hf p.1 hb
  obtain⟨o,e',d⟩:=ho p.1 hb
  rw[e] at e';cases e'
  exact⟨e,f0,f1,f2,d⟩
theorem Inv.vY{pins pl:List (Addr×Obj)}{σ:St}{H:Hp}{s:Shared}(I:Inv X (pins++pl) σ H s):Inv X pins σ H s:=I.pK fun p hp=>I.pin p (List.mem_append_right _ (List.mem_append_left _ hp))
theorem Uz{iter:Expr}{body:List Stmt}{wi:TI}{g:TG}{tb:TS}{pos:Pos}(hp:PassesOwn (model X.prog X.w) X.A X.env X.xe)(hc:X.calm=true)(hi:PI X tg iter wi)(hg:PG X tg g)(hb:PSs X body tb)
  (hs:∀ x,foldedSetIterable iter X.env x=pure x:=by intro _;rfl):PS X (.For tg iter body [] pos) (Vk wi g tb):=by
 intro pins s σ H D I h
 refine wpAny_For (thn (hi pins s σ H _ I h) fun v s1 h1=>thn h1 fun itv s2 h2=>?_) hs
 obtain⟨it,fp,tn,J,H2,e,I2,T,st2,f2,W,⟨m0,w0⟩,turn⟩:=h2
 subst e
 have stat:∀ {H':Hp},(∀ b∈fp,H' b=none)->∀ b∈fp,nP X pins H' b:=fun hn b hb=>⟨hn b hb,(f2 b hb).2⟩
 refine codeAny_forLoop_any (fun n s'=>∃ i σ' H',Inv X pins σ' H' s'/\tn i s'.heap/\(∀ b∈fp,H' b=none)/\W i n σ' H') ?_ m0 ⟨0,σ,H2,I2,st2,fun b hb=>(f2 b hb).1,w0⟩
 rintro n s3 ⟨i,σ3,H3,I3,st3,fr3,w3⟩
 rcases turn i n σ3 H3 w3 with⟨stop,qn⟩|⟨go,N,hN,step⟩
 ·refine wpAny_passesOwn hp (thn (T.done X rfl rfl rfl hc i pins s3 σ3 H3 X.xe I3 (stat fr3) st3 stop) fun r s4 ⟨hr,I4⟩=>?_)
  subst hr
  exact wpAny_execs_nil ⟨σ3,H3,I4,qn⟩
 ·refine wpAny_passesOwn hp (thn (T.item X rfl rfl rfl hc i pins s3 σ3 H3 X.xe I3 (stat fr3) st3 go) fun r s4 ⟨u,hr,h4⟩=>?_)
  subst hr
  refine wpAny_passesOwn hp (thn h4 fun _ s5 ⟨x,H5,I5,r5,y5,st5,fr5⟩=>?_)
  have I5':=I5.pinned (stat fr5) (T.obj _ _ st5)
  refine wpAny_passesOwn hp (thn (hg _ s5 σ3 H5 x u _ I5' r5 (step x H5 y5)) fun _ s6 ⟨σ6,H6,I6,q6⟩=>?_)
  refine wpAny_passesOwn hp (thn (hb _ s6 σ6 H6 _ I6 q6) fun f s7 q7=>?_)
  have again:∀ {σ7:St} {H7:Hp},Inv X (pins++oM fp s5.heap) σ7 H7 s7->N σ7 H7->∃ m,m<n/\∃ i σ' H',Inv X pins σ' H' s7/\tn i s7.heap/\(∀ b∈fp,H' b=none)/\W i m σ' H':=fun {σ7 H7} I7 n7=>by
   obtain⟨m',hm,w7⟩:=hN σ7 H7 n7
   refine⟨m',hm,i+1,σ7,H7,I7.vY,T.keep _ _ _ st5 fun b hb o e=>(I7.pin (b,o) (List.mem_append_right _ (List.mem_append_right _ (oJ hb e)))).1,fun b hb=>?_,w7⟩
   obtain⟨o,e,d⟩:=T.obj _ _ st5 b hb
   exact(I7.pin (b,o) (List.mem_append_right _ (List.mem_append_right _ (oJ hb e)))).2.1
  cases f with
  |next=>obtain⟨σ7,H7,I7,n7⟩:=q7;exact again I7 n7
  |cont=>obtain⟨σ7,H7,I7,n7⟩:=q7;exact again I7 n7
  |brk=>obtain⟨σ7,H7,I7,q7⟩:=q7;exact⟨σ7,H7,I7.vY,q7⟩
  |ret v=>obtain⟨x7,σ7,H7,I7,r7,q7⟩:=q7;exact⟨x7,σ7,H7,I7.vY,r7,q7⟩
end
theorem cX{K:PySem.W.Frag}{a:Addr}{xs:List V}{g:TG}{tb:TS}{D:Ends}{σ:St}{H:Hp}(Pv:Nat->St->Hp->Prop)(h0:Pv 0 σ H)(hl:∀ i σ H,i<=xs.length->Pv i σ H->SqL K H a xs)
  (hs:∀ i x σ H,xs[i]?=some x->Pv i σ H->g x σ H fun σ2 H2=>tb { D with nx:=Pv (i+1),ct:=Pv (i+1),bk:=D.nx } σ2 H2) (hd:∀ σ H,Pv xs.length σ H->D.nx σ H) :
  ∃ W:Nat->Nat->St->Hp->Prop,(∃ m,W 0 m σ H)/\∀ i m σ H,W i m σ H ->
   ((Itl K a).stop i H/\D.nx σ H)\/((Itl K a).go i H/\∃ N:St->Hp->Prop,(∀ σ' H',N σ' H'->∃ m',m'<m/\W (i+1) m' σ' H')/\∀ x H',(Itl K a).yld i H x H'->g x σ H' fun σ2 H2=>tb { D with nx:=N,ct:=N,bk:=D.nx } σ2 H2):=by
 refine⟨fun i m σ H=>m=xs.length-i/\i<=xs.length/\Pv i σ H,⟨xs.length,by simp,Nat.zero_le _,h0⟩,?_⟩
 rintro i m σ H ⟨rfl,hi,p⟩
 have q:=hl i σ H hi p
 by_cases hlt:i<xs.length
 ·refine .inr ⟨⟨xs,xs[i],q,by simp[hlt]⟩,Pv (i+1),fun σ' H' p'=>⟨xs.length-(i+1),by lia,rfl,hlt,p'⟩,fun x H' y=>?_⟩
  obtain⟨e,y⟩:=y
  subst e
  exact hs i x σ _ (y xs q) p
 ·have e:i=xs.length:=by lia
  subst e
  exact .inl ⟨⟨xs,q,Nat.le_refl _⟩,hd σ H p⟩
theorem cR{lo:Int}{n:Nat}{g:TG}{tb:TS}{D:Ends}{σ:St}{H:Hp}(Pv:Nat->St->Hp->Prop)(h0:Pv 0 σ H)
  (hs:∀ i σ H,i<n->Pv i σ H->g (.int (lo+i)) σ H fun σ2 H2=>tb { D with nx:=Pv (i+1),ct:=Pv (i+1),bk:=D.nx } σ2 H2) (hd:∀ σ H,Pv n σ H->D.nx σ H) :
  ∃ W:Nat->Nat->St->Hp->Prop,(∃ m,W 0 m σ H)/\∀ i m σ H,W i m σ H ->
   ((Itr lo n).stop i H/\D.nx σ H)\/((Itr lo n).go i H/\∃ N:St->Hp->Prop,(∀ σ' H',N σ' H'->∃ m',m'<m/\W (i+1) m' σ' H')/\∀ x H',(Itr lo n).yld i H x H'->g x σ H' fun σ2 H2=>tb { D with nx:=N,ct:=N,bk:=D.nx } σ2 H2):=by
 refine⟨fun i m σ H=>m=n-i/\i<=n/\Pv i σ H,⟨n,by simp,Nat.zero_le _,h0⟩,?_⟩
 rintro i m σ H ⟨rfl,hi,p⟩
 by_cases hlt:i<n
 ·refine .inr ⟨hlt,Pv (i+1),fun σ' H' p'=>⟨n-(i+1),by lia,rfl,hlt,p'⟩,fun x H' y=>?_⟩
  obtain⟨e,y⟩:=y
  subst e y
  exact hs i σ _ hlt p
 ·have e:i=n:=by lia
  subst e
  exact .inl ⟨Nat.le_refl _,hd σ H p⟩
end L2
namespace L2
open PySem PySem.Spec PyProof.Rows
abbrev R2:=V->V->Hp->VK->Prop
def OpR(X:Cx)(f:Value->Value->Sem Value)(r:R2):Prop:=
 ∀(pins:List (Addr×Obj))(s:Shared)(σ:St)(H:Hp)(x y:V)(v u:Value)(Q:VK),Inv X pins σ H s->RelV x v->RelV y u->r x y H Q ->
  wpAny (model X.prog X.w) X.A (f v u) (EP X pins σ Q) X.xe s
def UnR(X:Cx)(f:Value->Sem Value)(r:V->Hp->VK->Prop):Prop:=
 ∀(pins:List (Addr×Obj))(s:Shared)(σ:St)(H:Hp)(x:V)(v:Value)(Q:VK),Inv X pins σ H s->RelV x v->r x H Q ->
  wpAny (model X.prog X.w) X.A (f v) (EP X pins σ Q) X.xe s
def cA(X:Cx)(f:Value)(r:List V->Hp->VK->Prop):Prop:=
 ∀(pins:List (Addr×Obj))(s:Shared)(σ:St)(H:Hp)(xs:List V)(us:List Value)(Q:VK),Inv X pins σ H s->Vals xs us->r xs H Q ->
  wpAny (model X.prog X.w) X.A (call f us) (EP X pins σ Q) X.xe s
def tOp(r:R2)(ta tb:TE):TE:=fun σ H Q=>ta σ H fun x H1=>tb σ H1 fun y H2=>r x y H2 Q
def tUn(r:V->Hp->VK->Prop)(ta:TE):TE:=fun σ H Q=>ta σ H fun x H1=>r x H1 Q
def rI(C:Int->Int->Prop)(g:Int->Int->V):R2:=fun x y H Q=>∃ i j,x=.int i/\y=.int j/\C i j/\Q (g i j) H
def rI0(g:Int->Int->V):R2:=fun x y H Q=>∃ i j,x=.int i/\y=.int j/\Q (g i j) H
def rU(g:Int->V):V->Hp->VK->Prop:=fun x H Q=>∃ i,x=.int i/\Q (g i) H
section
variable{X:Cx}{a b c:Expr}{ta tb tc:TE}{pos:Pos}
theorem S5(ha:PE X a ta)(hb:PE X b tb){pins:List (Addr×Obj)}{s:Shared}{σ:St}{H:Hp}{R:V->V->Hp->Prop}(I:Inv X pins σ H s)
  (h:ta σ H fun x H1=>tb σ H1 fun y H2=>R x y H2) {Q:Value->Shared->Prop} {f:Value->Value->Sem Value}
  (hf:∀ v u s2 x y H2,Inv X pins σ H2 s2->RelV x v->RelV y u->R x y H2->wpAny (model X.prog X.w) X.A (f v u) Q X.xe s2) :
  wpAny (model X.prog X.w) X.A (eval a X.env) (fun v s₁=>wpAny (model X.prog X.w) X.A (eval b X.env) (fun u s₂=>wpAny (model X.prog X.w) X.A (f v u) Q X.xe s₂) X.xe s₁) X.xe s:=by
 refine thn (ha pins s σ H _ I h) fun v s1 ⟨x,H1,I1,r1,q1⟩=>?_
 refine thn (hb pins s1 σ H1 _ I1 q1) fun u s2 ⟨y,H2,I2,r2,q2⟩=>?_
 exact hf v u s2 x y H2 I2 r1 r2 q2
theorem Wq{op:Operator}{r:R2}(ho:OpR X (binaryOp op) r)(ha:PE X a ta)(hb:PE X b tb):PE X (.BinOp a op b pos) (tOp r ta tb):=by
 intro pins s σ H Q I h
 exact wpAny_BinOp (S5 ha hb I h fun v u s2 x y H2 I2 rx ry q=>ho pins s2 σ H2 x y v u Q I2 rx ry q)
theorem Wr{op:UnaryOp}{r:V->Hp->VK->Prop}(ho:UnR X (unaryOp op) r)(ha:PE X a ta):PE X (.UnaryOp op a pos) (tUn r ta):=by
 intro pins s σ H Q I h
 exact UnaryOp_ (thn (ha pins s σ H _ I h) fun v s1 ⟨x,H1,I1,r1,q1⟩=>ho pins s1 σ H1 x v Q I1 r1 q1)
theorem opI{f:Value->Value->Sem Value}{C:Int->Int->Prop}{g:Int->Int->Int}
  (rule:∀(i j:Int)(t u:Tok)(s:Shared)(Q:Value->Shared->Prop)(E:Value->Shared->Prop),C i j->Q (.int (g i j) s.toks) { s with toks:=s.toks+1 }->wpAny (model X.prog X.w) X.A (f (.int i t) (.int j u)) Q E s) :
  OpR X f (rI C fun i j=>.int (g i j)):=by
 intro pins s σ H x y v u Q I rx ry h
 obtain⟨i,j,rfl,rfl,hc,q⟩:=h
 obtain⟨t,rfl⟩:=rx
 obtain⟨t',rfl⟩:=ry
 exact rule i j t t' s _ _ hc ⟨.int (g i j),H,I.tok _,⟨_,rfl⟩,q⟩
theorem Wk{f:Value->Value->Sem Value}{g:Int->Int->Int}
  (rule:∀(i j:Int)(t u:Tok)(s:Shared)(Q:Value->Shared->Prop)(E:Value->Shared->Prop),Q (.int (g i j) s.toks) { s with toks:=s.toks+1 }->wpAny (model X.prog X.w) X.A (f (.int i t) (.int j u)) Q E s) :
  OpR X f (rI0 fun i j=>.int (g i j)):=by
 intro pins s σ H x y v u Q I rx ry h
 obtain⟨i,j,rfl,rfl,q⟩:=h
 obtain⟨t,rfl⟩:=rx
 obtain⟨t',rfl⟩:=ry
 exact rule i j t t' s _ _ ⟨.int (g i j),H,I.tok _,⟨_,rfl⟩,q⟩
theorem U4{f:Value->Value->Sem Value}{g:Int->Int->Bool}
  (rule:∀(i j:Int)(t u:Tok)(s:Shared)(Q:Value->Shared->Prop)(E:Value->Shared->Prop),Q (.bool (g i j)) s->wpAny (model X.prog X.w) X.A (f (.int i t) (.int j u)) Q E s) :
  OpR X f (rI0 fun i j=>.bl (g i j)):=by
 intro pins s σ H x y v u Q I rx ry h
 obtain⟨i,j,rfl,rfl,q⟩:=h
 obtain⟨t,rfl⟩:=rx
 obtain⟨t',rfl⟩:=ry
 exact rule i j t t' s _ _ ⟨.bl (g i j),H,I,rfl,q⟩
def Xw(i j:Int):Prop:=0<j/\j<1073741824
def O6(i j:Int):Prop:=(-(2^64)<i/\i<2^64)\/(-(2^64)<j/\j<2^64)
theorem O6.ok{i j:Int}(h:O6 i j):IntMulOk i j:=by
 rcases h with⟨h1,h2⟩|⟨h1,h2⟩
 ·exact .of_left (intBits_le_64 h1 h2)
 ·exact .of_right (intBits_le_64 h1 h2)
theorem U5:OpR X (binaryOp .Add) (rI0 fun i j=>.int (i+j)):=Wk fun _ _ _ _ _ _ _ q=>add_int q
theorem Lk:OpR X (binaryOp .Sub) (rI0 fun i j=>.int (i-j)):=Wk fun _ _ _ _ _ _ _ q=>sub_int q
theorem Ua:OpR X (binaryOp .Mult) (rI O6 fun i j=>.int (i*j)):=opI fun _ _ _ _ _ _ _ hc q=>mul_int q hc.ok
theorem Gp:OpR X (binaryOp .FloorDiv) (rI Xw fun i j=>.int (i / j)):=opI fun i j _ _ _ _ _ hc q=>by
 have h1:(0:Int)<j:=hc.1
 have h2:j<1073741824:=hc.2
 exact floordiv_int (by lia) (by rw[Int.fdiv_eq_ediv_of_nonneg i (by lia)];exact q) (.inl (PyProof.noPylong_small (by lia)))
theorem iY:OpR X (binaryOp .Mod) (rI (fun _ j=>0<j) fun i j=>.int (i%j)):=opI fun i j _ _ _ _ _ hc q=>by
 have h1:(0:Int)<j:=hc
 exact mod_int' (by lia) (by rw[Int.fmod_eq_emod_of_nonneg i (by lia)];exact q)
theorem unI{f:Value->Sem Value}{g:Int->Int}
  (rule:∀(i:Int)(t:Tok)(s:Shared)(Q:Value->Shared->Prop)(E:Value->Shared->Prop),Q (.int (g i) s.toks) { s with toks:=s.toks+1 }->wpAny (model X.prog X.w) X.A (f (.int i t)) Q E s) :
  UnR X f (rU fun i=>.int (g i)):=by
 intro pins s σ H x v Q I rx h
 obtain⟨i,rfl,q⟩:=h
 obtain⟨t,rfl⟩:=rx
 exact rule i t s _ _ ⟨.int (g i),H,I.tok _,⟨_,rfl⟩,q⟩
theorem rO:UnR X (unaryOp .USub) (rU fun i=>.int (-i)):=unI fun _ _ _ _ _ q=>neg_int q
end
def X6:V->V->Bool
 |.non,.non=>true|.non,.int _=>true|.int _,.non=>true|.non,.bl _=>true|.bl _,.non=>true|.non,.str _=>true|.str _,.non=>true
 |.int _,.int _=>true|.bl _,.bl _=>true|.str _,.str _=>true|.byt _,.byt _=>true
 |.int _,.str _=>true|.str _,.int _=>true|.bl _,.str _=>true|.str _,.bl _=>true
 |_,_=>false
def rEq:R2:=fun x y H Q=>X6 x y=true/\Q (.bl (decide (x=y))) H
def rNe:R2:=fun x y H Q=>X6 x y=true/\Q (.bl (!decide (x=y))) H
theorem Ft{i j:Int}:decide (V.int i=V.int j)=(i==j):=by
 rw[Bool.eq_iff_iff]
 simp
theorem JV{i j:Bool}:decide (V.bl i=V.bl j)=(i==j):=by
 rw[Bool.eq_iff_iff]
 simp
theorem Fv{i j:Str}:decide (V.str i=V.str j)=(i==j):=by
 rw[Bool.eq_iff_iff]
 simp
theorem Fq{i j:Array UInt8}:decide (V.byt i=V.byt j)=(i.toList==j.toList):=by
 rw[Bool.eq_iff_iff]
 cases i
 cases j
 simp
section
variable{X:Cx}{a b c:Expr}{ta tb tc:TE}{pos:Pos}
theorem bL{pins:List (Addr×Obj)}{σ:St}{H:Hp}{s:Shared}{Q:VK}{k k':Bool}(I:Inv X pins σ H s)(q:Q (.bl k) H)(e:k=k'):EP X pins σ Q (.bool k') s:=by
 subst e
 exact⟨.bl k,H,I,rfl,q⟩
theorem sI:OpR X (compareOp .Eq) rEq:=by
 intro pins s σ H x y v u Q I rx ry h
 obtain⟨hs,q⟩:=h
 cases x with
 |non=>
  cases rx
  cases y with
  |non=>cases ry;exact PySem.EqNone.eq_none_none (bL I q (by simp))
  |bl j=>cases ry;exact PySem.EqNone.eq_none_bool (bL I q (by simp))
  |int j=>obtain⟨t',rfl⟩:=ry;exact PySem.EqNone.eq_none_int (bL I q (by simp))
  |str j=>obtain⟨t',rfl⟩:=ry;exact PySem.EqNone.eq_none_str (bL I q (by simp))
  |_=>exact absurd (show false=true from hs) Bool.false_ne_true
 |bl i=>
  cases rx
  cases y with
  |non=>cases ry;exact PySem.EqNone.eq_bool_none (bL I q (by simp))
  |bl j=>cases ry;exact eq_bool (bL I q JV)
  |str j=>obtain⟨t',rfl⟩:=ry;exact PySem.EqMixed.eq_bool_str (bL I q (by simp))
  |_=>exact absurd (show false=true from hs) Bool.false_ne_true
 |int i=>
  obtain⟨t,rfl⟩:=rx
  cases y with
  |non=>cases ry;exact PySem.EqNone.eq_int_none (bL I q (by simp))
  |int j=>obtain⟨t',rfl⟩:=ry;exact eq_int (bL I q Ft)
  |str j=>obtain⟨t',rfl⟩:=ry;exact PySem.EqMixed.eq_int_str (bL I q (by simp))
  |_=>exact absurd (show false=true from hs) Bool.false_ne_true
 |str i=>
  obtain⟨t,rfl⟩:=rx
  cases y with
  |non=>cases ry;exact PySem.EqNone.eq_str_none (bL I q (by simp))
  |bl j=>cases ry;exact PySem.EqMixed.eq_str_bool (bL I q (by simp))
  |int j=>obtain⟨t',rfl⟩:=ry;exact PySem.EqMixed.eq_str_int (bL I q (by simp))
  |str j=>obtain⟨t',rfl⟩:=ry;exact eq_str (bL I q Fv)
  |_=>exact absurd (show false=true from hs) Bool.false_ne_true
 |byt i=>
  obtain⟨t,rfl⟩:=rx
  cases y with
  |byt j=>obtain⟨t',rfl⟩:=ry;exact PySem.W.eq_bytes (bL I q Fq)
  |_=>exact absurd (show false=true from hs) Bool.false_ne_true
 |_=>cases y<;>exact absurd (show false=true from hs) Bool.false_ne_true
theorem Gq:OpR X (compareOp .NotEq) rNe:=by
 intro pins s σ H x y v u Q I rx ry h
 obtain⟨hs,q⟩:=h
 cases x with
 |non=>
  cases rx
  cases y with
  |non=>cases ry;exact PySem.EqNone.ne_none_none (bL I q (by simp))
  |bl j=>cases ry;exact PySem.EqNone.ne_none_bool (bL I q (by simp))
  |int j=>obtain⟨t',rfl⟩:=ry;exact PySem.EqNone.ne_none_int (bL I q (by simp))
  |str j=>obtain⟨t',rfl⟩:=ry;exact PySem.EqNone.ne_none_str (bL I q (by simp))
  |_=>exact absurd (show false=true from hs) Bool.false_ne_true
 |bl i=>
  cases rx
  cases y with
  |non=>cases ry;exact PySem.EqNone.ne_bool_none (bL I q (by simp))
  |bl j=>cases ry;exact ne_bool (bL I q (congrArg not JV))
  |str j=>obtain⟨t',rfl⟩:=ry;exact PySem.EqMixed.ne_bool_str (bL I q (by simp))
  |_=>exact absurd (show false=true from hs) Bool.false_ne_true
 |int i=>
  obtain⟨t,rfl⟩:=rx
  cases y with
  |non=>cases ry;exact PySem.EqNone.ne_int_none (bL I q (by simp))
  |int j=>obtain⟨t',rfl⟩:=ry;exact ne_int (bL I q (congrArg not Ft))
  |str j=>obtain⟨t',rfl⟩:=ry;exact PySem.EqMixed.ne_int_str (bL I q (by simp))
  |_=>exact absurd (show false=true from hs) Bool.false_ne_true
 |str i=>
  obtain⟨t,rfl⟩:=rx
  cases y with
  |non=>cases ry;exact PySem.EqNone.ne_str_none (bL I q (by simp))
  |bl j=>cases ry;exact PySem.EqMixed.ne_str_bool (bL I q (by simp))
  |int j=>obtain⟨t',rfl⟩:=ry;exact PySem.EqMixed.ne_str_int (bL I q (by simp))
  |str j=>obtain⟨t',rfl⟩:=ry;exact ne_str (bL I q (congrArg not Fv))
  |_=>exact absurd (show false=true from hs) Bool.false_ne_true
 |byt i=>
  obtain⟨t,rfl⟩:=rx
  cases y with
  |byt j=>obtain⟨t',rfl⟩:=ry;exact PySem.W.ne_bytes (bL I q (congrArg not Fq))
  |_=>exact absurd (show false=true from hs) Bool.false_ne_true
 |_=>cases y<;>exact absurd (show false=true from hs) Bool.false_ne_true
theorem xR:OpR X (compareOp .Lt) (rI0 fun i j=>.bl (decide (i<j))):=U4 fun _ _ _ _ _ _ _ q=>lt_int q
theorem lA:OpR X (compareOp .LtE) (rI0 fun i j=>.bl (decide (i<=j))):=U4 fun _ _ _ _ _ _ _ q=>le_int q
theorem lY:OpR X (compareOp .Gt) (rI0 fun i j=>.bl (decide (j<i))):=U4 fun _ _ _ _ _ _ _ q=>gt_int q
theorem eV:OpR X (compareOp .In) (fun x y H Q=>∃ i j,x=.str i/\y=.str j/\Q (.bl (!(Builtin.Str.occurrences j i 0 j.length 1).isEmpty)) H):=by
 intro pins s σ H x y v u Q I rx ry h
 obtain⟨i,j,rfl,rfl,q⟩:=h
 obtain⟨t,rfl⟩:=rx
 obtain⟨t',rfl⟩:=ry
 exact in_str (bL I q rfl)
theorem fO:OpR X (compareOp .NotIn) (fun x y H Q=>∃ i j,x=.str i/\y=.str j/\Q (.bl (!(!(Builtin.Str.occurrences j i 0 j.length 1).isEmpty))) H):=by
 intro pins s σ H x y v u Q I rx ry h
 obtain⟨i,j,rfl,rfl,q⟩:=h
 obtain⟨t,rfl⟩:=rx
 obtain⟨t',rfl⟩:=ry
 exact notIn_str (bL I q rfl)
theorem OpR.or{f:Value->Value->Sem Value}{r r':R2}(h:OpR X f r)(h':OpR X f r'):OpR X f (fun x y H Q=>r x y H Q\/r' x y H Q):=by
 intro pins s σ H x y v u Q I rx ry q
 rcases q with q|q
 ·exact h pins s σ H x y v u Q I rx ry q
 ·exact h' pins s σ H x y v u Q I rx ry q
theorem cC(b:Expr){op:CmpOp}(h:op≠.In:=by decide)(h2:op≠.NotIn:=by decide):behindInMarks op b=false:=by
 have e1:(op==CmpOp.In)=false:=by cases op<;>first|rfl|exact absurd rfl h
 have e2:(op==CmpOp.NotIn)=false:=by cases op<;>first|rfl|exact absurd rfl h2
 cases b<;>simp[behindInMarks,e1,e2]
theorem Qc{op:CmpOp}{r:R2}(ho:OpR X (compareOp op) r)(ha:PE X a ta)(hb:PE X b tb)(hm:behindInMarks op b=false):PE X (.Compare a [op] [b] pos) (tOp r ta tb):=by
 intro pins s σ H Q I h
 exact wpAny_Compare1 (S5 ha hb I h fun v u s2 x y H2 I2 rx ry q=>ho pins s2 σ H2 x y v u Q I2 rx ry q) hm
def Hf(t:TE):TT:=fun σ H Q=>t σ H fun x H'=>∃ k,x=.bl k/\Q k H'
theorem Qy{op:CmpOp}{r:R2}(ho:OpR X (compareOp op) r)(ha:PE X a ta)(hb:PE X b tb)(hm:behindInMarks op b=false):PT X (.Compare a [op] [b] pos) (Hf (tOp r ta tb)):=by
 intro pins s σ H Q I h
 refine wpAny_isTrue_Compare1 (thn (ha pins s σ H _ I h) fun v s1 ⟨x,H1,I1,r1,q1⟩=>thn (hb pins s1 σ H1 _ I1 q1) fun u s2 ⟨y,H2,I2,r2,q2⟩=>
  thn (ho pins s2 σ H2 x y v u _ I2 r1 r2 q2) fun c s3 ⟨z,H3,I3,r3,k,e,q3⟩=>?_) hm
 subst e
 cases r3
 exact wpAny_truthy_bool ⟨H3,I3,q3⟩
def zy(r r':R2)(ta tb tc:TE):TE:=fun σ H Q=>ta σ H fun x H1=>tb σ H1 fun y H2=>r x y H2 fun z H3=>∃ k,z=.bl k /\
 (if k=true then tc σ H3 fun w' H4=>r' y w' H4 Q else Q (.bl false) H3)
theorem Lq{op op':CmpOp}{r r':R2}(ho:OpR X (compareOp op) r)(ho':OpR X (compareOp op') r')(ha:PE X a ta)(hb:PE X b tb)(hc:PE X c tc)
  (hm:lastMarks [op,op'] [b,c]=false:=by with_unfolding_all rfl):PE X (.Compare a [op,op'] [b,c] pos) (zy r r' ta tb tc):=by
 intro pins s σ H Q I h
 refine Compare_chain (thn (ha pins s σ H _ I h) fun v s1 ⟨x,H1,I1,r1,q1⟩=>chain_link (thn (hb pins s1 σ H1 _ I1 q1) fun u s2 ⟨y,H2,I2,r2,q2⟩=>
  thn (ho pins s2 σ H2 x y v u _ I2 r1 r2 q2) fun d s3 ⟨z,H3,I3,r3,k,e,q3⟩=>?_)) hm
 subst e
 cases r3
 refine wpAny_truthy_bool ?_
 cases k with
 |false=>exact ite_ff ⟨.bl false,H3,I3,rfl,q3⟩
 |true=>exact ite_tt (chain_last (thn (hc pins s3 σ H3 _ I3 q3) fun w' s4 ⟨z',H4,I4,r4,q4⟩=>ho' pins s4 σ H4 y z' u w' Q I4 r2 r4 q4))
theorem M5{op op':CmpOp}{r r':R2}(ho:OpR X (compareOp op) r)(ho':OpR X (compareOp op') r')(ha:PE X a ta)(hb:PE X b tb)(hc:PE X c tc)
  (hm:lastMarks [op,op'] [b,c]=false:=by with_unfolding_all rfl):PT X (.Compare a [op,op'] [b,c] pos) (Hf (zy r r' ta tb tc)):=by
 intro pins s σ H Q I h
 refine isTrue_chain (thn (ha pins s σ H _ I h) fun v s1 ⟨x,H1,I1,r1,q1⟩=>test_link (thn (hb pins s1 σ H1 _ I1 q1) fun u s2 ⟨y,H2,I2,r2,q2⟩=>
  thn (ho pins s2 σ H2 x y v u _ I2 r1 r2 q2) fun d s3 ⟨z,H3,I3,r3,k,e,q3⟩=>?_)) hm
 subst e
 cases r3
 refine wpAny_truthy_bool ?_
 cases k with
 |false=>
  obtain⟨k',e',q'⟩:=q3
  cases e'
  exact ite_ff ⟨H3,I3,q'⟩
 |true=>
  refine ite_tt (test_last (thn (hc pins s3 σ H3 _ I3 q3) fun w' s4 ⟨z',H4,I4,r4,q4⟩=>thn (ho' pins s4 σ H4 y z' u w' _ I4 r2 r4 q4) fun d' s5 ⟨z2,H5,I5,r5,k2,e2,q5⟩=>?_))
  subst e2
  cases r5
  exact wpAny_truthy_bool ⟨H5,I5,q5⟩
theorem qU:(sizeLine:Nat)<2^63:=by rw[sizeLine_eq];decide
theorem DP:OpR X (binaryOp .Add) (fun x y H Q=>∃ i j,x=.str i/\y=.str j/\i.length+j.length<=sizeLine/\Q (.str (i++j)) H):=by
 intro pins s σ H x y v u Q I rx ry h
 obtain⟨i,j,rfl,rfl,hz,q⟩:=h
 obtain⟨t,rfl⟩:=rx
 obtain⟨t',rfl⟩:=ry
 exact add_str (fun t' tk=>⟨.str (i++j),H,I.tok _,⟨_,rfl⟩,q⟩) hz
theorem vals1{x:V}{us:List Value}(r:Vals [x] us):∃ u,us=[u]/\RelV x u:=by
 cases r with
 |cons r1 r2=>cases r2;exact⟨_,rfl,r1⟩
theorem vals2{x y:V}{us:List Value}(r:Vals [x,y] us):∃ u w',us=[u,w']/\RelV x u/\RelV y w':=by
 cases r with
 |cons r1 r2=>
  cases r2 with
  |cons r3 r4=>cases r4;exact⟨_,_,rfl,r1,r3⟩
theorem wM(hc:X.calm=true):cA X (.builtin "max") (fun xs H Q=>∃ i j,xs=[.int i,.int j]/\Q (.int (if j>i then j else i)) H):=by
 intro pins s σ H xs us Q I r h
 obtain⟨i,j,rfl,q⟩:=h
 obtain⟨u,w',rfl,⟨t,rfl⟩,⟨t',rfl⟩⟩:=vals2 r
 refine max_two_ints (I.ok.hd hc) fun h' tk k=>⟨_,H,I.kept k,?_,q⟩
 by_cases hj:j>i
 ·rw[if_pos hj,if_pos hj];exact⟨_,rfl⟩
 ·rw[if_neg hj,if_neg hj];exact⟨_,rfl⟩
theorem wN(hc:X.calm=true):cA X (.builtin "min") (fun xs H Q=>∃ i j,xs=[.int i,.int j]/\Q (.int (if j<i then j else i)) H):=by
 intro pins s σ H xs us Q I r h
 obtain⟨i,j,rfl,q⟩:=h
 obtain⟨u,w',rfl,⟨t,rfl⟩,⟨t',rfl⟩⟩:=vals2 r
 refine min_two_ints (I.ok.hd hc) fun h' tk k=>⟨_,H,I.kept k,?_,q⟩
 by_cases hj:j<i
 ·rw[if_pos hj,if_pos hj];exact⟨_,rfl⟩
 ·rw[if_neg hj,if_neg hj];exact⟨_,rfl⟩
theorem Hj:cA X (.type "int") (fun xs H Q=>(∃ i,xs=[.int i]/\Q (.int i) H)\/∃ k,xs=[.bl k]/\Q (.int (if k then 1 else 0)) H):=by
 intro pins s σ H xs us Q I r h
 rcases h with⟨i,rfl,q⟩|⟨k,rfl,q⟩
 ·obtain⟨u,rfl,t,rfl⟩:=vals1 r
  exact call_int_int ⟨.int i,H,I,⟨_,rfl⟩,q⟩
 ·obtain⟨u,rfl,r1⟩:=vals1 r
  cases r1
  exact call_int_bool ⟨.int (if k then 1 else 0),H,I.tok _,⟨_,rfl⟩,q⟩
theorem yC:cA X (.type "str") (fun xs H Q=>∃ i,xs=[.int i]/\i.natAbs.log2<1920/\Q (.str (toString i)) H):=by
 intro pins s σ H xs us Q I r h
 obtain⟨i,rfl,hz,q⟩:=h
 obtain⟨u,rfl,t,rfl⟩:=vals1 r
 exact PySem.P.str_of_int hz ⟨.str _,H,I.tok _,⟨_,rfl⟩,q⟩
end
end L2
namespace L2
open PySem PySem.Spec PyProof.Rows
structure Hh(h:Heap)(x dx C:Addr)(mA:Str->Option Value):Prop where
 obj:h.get? x=some (PySem.W.instObj C dx)
 ns:h.Ns1 dx mA
 ne:dx≠x
theorem Ij{h:Heap}{dx:Addr}{mA:Str->Option Value}(n:h.Ns1 dx mA):∃ od,h.get? dx=some od/\∀ name,PySem.W.lookIn name od=some (mA name):=by
 obtain⟨o,es,ep,ho,hd,hk,_,hm⟩:=n
 refine⟨o,ho,fun name=>?_⟩
 have e:=hm name
 unfold nsFind findBy at e
 rw[<- Array.find?_toList] at e
 unfold PySem.W.lookIn
 rw[hd]
 dsimp only
 split
 ·rename_i y q
  rw[q] at e
  exact congrArg some e
 ·rename_i q
  rw[q] at e
  have a:es.toList.any (·.refKey)=false:=by
   rw[List.any_eq_false]
   intro y hy
   obtain⟨z,t,hkey⟩:=hk y (Array.mem_toList_iff.mp hy)
   simp[DictEntry.refKey,hkey]
  have a':¬es.toList.any (·.refKey)=true:=by rw[a];exact Bool.false_ne_true
  rw[if_neg a']
  exact congrArg some e
theorem Hh.look{h:Heap}{x dx C:Addr}{mA:Str->Option Value}(I:Hh h x dx C mA):∃ od,PySem.W.InstAt h x (PySem.W.instObj C dx) C (some od)/\∀ name,PySem.W.lookIn name od=some (mA name):=
 let ⟨od,ho,hl⟩:=Ij I.ns
 ⟨od,⟨I.obj,rfl,rfl,ho⟩,hl⟩
section
variable{prog:Program}{w:World}{A:Around}{E:Value->Shared->Prop}{s:Shared}{K:PySem.W.Frag}{x dx C f:Addr}{mA:Str->Option Value}{name:Str}{v:Value}
theorem get_map{expr:Bool}{Q:Value->Shared->Prop}(X:K.In s.heap)(I:Hh s.heap x dx C mA)(hg:PySem.W.plainGet K C name=true)(hh:PySem.W.hasDictIn K C=true)
  (ha:PySem.W.findIn K (.ref C) name=some none) (hv:mA name=some v) (hv':PySem.W.handedIn v=true) (h:Q v { s with toks:=s.toks+1 }) :
  wpAny (model prog w) A (getAttr (.ref x) name expr) Q E s:=by
 obtain⟨od,J,hl⟩:=I.look
 exact PySem.W.get_value X J (PySem.W.plainGet_of hg).1 (PySem.W.findObj_own hh ha rfl (by rw[hl,hv])) hv' h
theorem QX{ns:List Str}{Q:Unit->Shared->Prop}(X:K.In s.heap)(I:Hh s.heap x dx C mA)
  (hs:PySem.W.findIn K (.ref C) "__setattr__" = some (some (.builtin "object.__setattr__"))) (hp:PySem.W.plainOver K C=true) (ht:PySem.W.takerIn K C name=some none) (hh:PySem.W.hasDictIn K C=true)
  (hw:PySem.Within mA ns) (hsz:ns.length<=sizeLine)
  (h:∀ h',Hh h' x dx C (fun y=>if y=name then some v else mA y)->Heap.SameBut dx s.heap h'->Q () { s with heap:=h',toks:=s.toks+2 }) :
  wpAny (model prog w) A (setAttr (.ref x) name v) Q E s:=by
 obtain⟨od,J,hl⟩:=I.look
 refine PySem.W.set_plain X J hs (PySem.W.osa_open (s:={ s with toks:=s.toks+1 }) (r:=none) X J hp ht fun b=>?_)
 obtain⟨cd,hc,hd'⟩:=PySem.W.any_some hh
 have hx:s.heap.get? x=some ⟨.ref C,some dx,.plain,#[]⟩:=I.obj
 refine wpAny_bind (wpAny_pure (wpAny_bind (wpAny_bind (wpAny_loadPart hx (wpAny_bind (PySem.W.Looks.here (s:={ s with toks:=s.toks+1 }) (PySem.W.looks_clsIn X hc) ?_))))))
 rw[hd']
 refine wpAny_pure (a:=some dx) (wpAny_bind (wpAny_pure (wpAny_bind ?_)))
 refine wpAny_nsSet1 (s:={ s with toks:=s.toks+1 }) I.ns fun h' hn2 hs2=>?_
 obtain⟨oD,esD,epD,hoD,hdD,hcD⟩:=hn2.count (PySem.Within.cons name v hw)
 refine wpAny_bind (wpAny_lookBehind hoD (by rw[hdD];exact pastItsLine_dict (Nat.le_trans hcD (by rw[List.length_cons];lia))) ?_)
 exact wpAny_pure (h _ ⟨(hs2.2 _ (Ne.symm I.ne)).trans I.obj,hn2,I.ne⟩ hs2)
theorem KJ{R:Result->Shared->Prop}{vs:List Value}{kw:List (Str×Value)}(X:K.In s.heap)(hm:PySem.W.makesIn K C=true)
  (hi:PySem.W.findIn K (.ref C) "__init__" = some (some (.ref f))) (hf:PySem.W.typeIn K (.ref f)=some (.type "function"))
  (h:codeAny (model prog w) (A.under (.builtin "type.__call__" ⟨.ref C::vs,kw⟩)) (.call (.ref f) ⟨.ref (s.heap.objs.size+1)::vs,kw⟩) (PySem.W.InitBack (s.heap.objs.size+1) R)
   { s with heap:=(s.heap.push PySem.W.emptyDict).push (PySem.W.instObj C s.heap.objs.size) }) :
  codeAny (model prog w) A (.call (.ref C) ⟨vs,kw⟩) R s:=by
 obtain⟨hh,g,d,t,os⟩:=s
 exact PySem.W.make_core (PySem.W.makes_of X hm) (PySem.W.looks_findIn X hi) (fun self=>PySem.W.bind_fn X self hf) (.inl rfl) h
end
def gY(f:Str)(v:V):List (Str×V)->List (Str×V)
 |[]=>[(f,v)]
 |(g,x)::r=>if g=f then(g,v)::r else(g,x)::gY f v r
theorem dJ(f g:Str)(v:V):∀ fs:List (Str×V),(gY f v fs).lookup g=if g=f then some v else fs.lookup g
 |[]=>by
  show List.lookup g [(f,v)]=_
  by_cases h:g=f
  ·have hb:(g==f)=true:=beq_iff_eq.mpr h
   simp only[List.lookup,hb,if_pos h]
  ·have hb:(g==f)=false:=beq_eq_false_iff_ne.mpr h
   simp only[List.lookup,hb,if_neg h]
 |(k,x)::r=>by
  have ih:=dJ f g v r
  rw[show gY f v ((k,x)::r)=(if k=f then(k,v)::r else(k,x)::gY f v r) from rfl]
  by_cases hk:k=f
  ·rw[if_pos hk]
   by_cases h:g=k
   ·have hb:(g==k)=true:=beq_iff_eq.mpr h
    simp only[List.lookup,hb,if_pos (h.trans hk)]
   ·have hb:(g==k)=false:=beq_eq_false_iff_ne.mpr h
    simp only[List.lookup,hb,if_neg (fun e:g=f=>h (e.trans hk.symm))]
  ·rw[if_neg hk]
   by_cases h:g=k
   ·have hb:(g==k)=true:=beq_iff_eq.mpr h
    simp only[List.lookup,hb,if_neg (fun e:g=f=>hk (h.symm.trans e))]
   ·have hb:(g==k)=false:=beq_eq_false_iff_ne.mpr h
    simp only[List.lookup,hb]
    exact ih
theorem qR(f:Str)(v:V):∀ fs:List (Str×V),f∈(gY f v fs).map (·.1)/\∀ g,g∈fs.map (·.1)->g∈(gY f v fs).map (·.1)
 |[]=>⟨by simp[gY],fun g h=>by simp at h⟩
 |(k,x)::r=>by
  obtain⟨i1,i2⟩:=qR f v r
  rw[show gY f v ((k,x)::r)=(if k=f then(k,v)::r else(k,x)::gY f v r) from rfl]
  by_cases hk:k=f
  ·rw[if_pos hk]
   subst hk
   exact⟨by simp,fun g h=>by simpa using h⟩
  ·rw[if_neg hk]
   refine⟨?_,fun g h=>?_⟩
   ·rw[List.map_cons]
    exact List.mem_cons_of_mem _ i1
   ·rw[List.map_cons] at h ⊢
    rcases List.mem_cons.mp h with e|e
    ·exact List.mem_cons.mpr (.inl e)
    ·exact List.mem_cons_of_mem _ (i2 g e)
theorem jh(f:Str)(v:V):∀ fs:List (Str×V),(gY f v fs).length<=fs.length+1
 |[]=>by simp[gY]
 |(k,x)::r=>by
  have ih:=jh f v r
  rw[show gY f v ((k,x)::r)=(if k=f then(k,v)::r else(k,x)::gY f v r) from rfl]
  by_cases hk:k=f
  ·rw[if_pos hk,List.length_cons,List.length_cons];lia
  ·rw[if_neg hk,List.length_cons,List.length_cons];lia
theorem qu.some_of{v:V}{o:Option Value}(r:qu (some v) o):∃ u,o=some u/\RelV v u:=by
 cases o with
 |none=>exact(show False from r).elim
 |some u=>exact⟨u,rfl,r⟩
theorem HX{v:V}{u:Value}(r:RelV v u):PySem.W.handedIn u=true:=by
 cases v with
 |non=>cases (show u=Value.none from r);rfl
 |bl b=>cases (show u=Value.bool b from r);rfl
 |int i=>obtain⟨t,e⟩:=(show ∃ t,u=Value.int i t from r);cases e;rfl
 |str x=>obtain⟨t,e⟩:=(show ∃ t,u=Value.str x t from r);cases e;rfl
 |byt b=>obtain⟨t,e⟩:=(show ∃ t,u=Value.bytes b t from r);cases e;rfl
 |flt b=>obtain⟨t,e⟩:=(show ∃ t,u=Value.float b t from r);cases e;rfl
 |ref a=>cases (show u=Value.ref a from r);rfl
 |ty n=>cases (show u=Value.type n from r);rfl
section
variable{P:Program}{w:World}{H H':Hp}{h h':Heap}{a C dx:Addr}{fs fs':List (Str×V)}
theorem yR(hok:HOk P w H h)(e:H a=some (.ins C dx fs)):∃ mA,Hh h a dx C mA/\(∀ f,qu (fs.lookup f) (mA f))/\PySem.Within mA (fs.map (·.1))/\fs.length<=1000/\H dx=some (.own a):=by
 obtain⟨d,z,ne,ob,mA,n,r,q⟩:=(show cM P w H h a (.ins C dx fs) from hok a _ e)
 exact⟨mA,⟨ob,n,ne⟩,r,q,z,d⟩
end
structure Cls(K:PySem.W.Frag)(C:Addr):Prop where
 pg:PySem.W.plainGet K C Str.empty=true
 hd:PySem.W.hasDictIn K C=true
 po:PySem.W.plainOver K C=true
 sa:PySem.W.findIn K (.ref C) "__setattr__" = some (some (.builtin "object.__setattr__"))
theorem Cls.get{K:PySem.W.Frag}{C:Addr}(c:Cls K C)(f:Str):PySem.W.plainGet K C f=true:=c.pg
def jJ(K:PySem.W.Frag)(C:Addr)(f:Str):Prop:=PySem.W.findIn K (.ref C) f=some none
theorem jJ.taker{K:PySem.W.Frag}{C:Addr}{f:Str}(n:jJ K C f):PySem.W.takerIn K C f=some none:=by
 unfold PySem.W.takerIn
 rw[show PySem.W.findIn K (.ref C) f=some none from n]
 rfl
section
variable{X:Cx}{pins:List (Addr×Obj)}{σ:St}{H:Hp}{s:Shared}{a C dx:Addr}{fs:List (Str×V)}{f:Str}{v:V}{A:Around}{E:Value->Shared->Prop}
theorem Dj{b:Bool}{Q:Value->Shared->Prop}(I:Inv X pins σ H s)(e:H a=some (.ins C dx fs))(c:Cls X.K C)(n:jJ X.K C f)(l:fs.lookup f=some v)
  (h:∀ u s',Inv X pins σ H s'->RelV v u->Q u s'):wpAny (model X.prog X.w) A (getAttr (.ref a) f b) Q E s:=by
 obtain⟨mA,O,r,_,_,_⟩:=yR I.hok e
 obtain⟨u,hu,ru⟩:=qu.some_of (v:=v) (o:=mA f) (by rw[<- l];exact r f)
 exact get_map I.kIn O (c.get f) c.hd n hu (HX ru) (h u _ (I.tok _) ru)
theorem Ek{y:V}{u:Value}{Q:Unit->Shared->Prop}(I:Inv X pins σ H s)(e:H a=some (.ins C dx fs))(c:Cls X.K C)(n:jJ X.K C f)(hl:fs.length<1000)(ry:RelV y u)
  (h:∀ s',Inv X pins σ (upd H a (.ins C dx (gY f y fs))) s'->Q () s'):wpAny (model X.prog X.w) A (setAttr (.ref a) f u) Q E s:=by
 obtain⟨mA,O,r,wi,_,ho⟩:=yR I.hok e
 have hz:(fs.map (·.1)).length<=sizeLine:=by rw[List.length_map,sizeLine_eq];lia
 refine QX I.kIn O c.sa c.po n.taker c.hd wi hz fun h' O' sb=>h _ ?_
 have hd:∃ o,h'.get? dx=some o:=let ⟨o,_,_,e',_⟩:=O'.ns;⟨o,e'⟩
 refine I.write (x:=a) (e:=dx) (by rw[e];exact True.intro) (.inr ho) (fun b q hb z=>(sb.2 b hb).trans z) hd ?_
 refine⟨by rw[aO O.ne];exact ho,?_,O.ne,O'.obj,_,O'.ns,fun g=>?_,fun g hg=>?_⟩
 ·have:=jh f y fs;lia
 ·show qu ((gY f y fs).lookup g) (if g=f then some u else mA g)
  rw[dJ]
  by_cases q:g=f
  ·rw[if_pos q,if_pos q];exact ry
  ·rw[if_neg q,if_neg q];exact r g
 ·by_cases q:g=f
  ·rw[q];exact(qR f y fs).1
  ·refine(qR f y fs).2 g (wi g fun z=>hg ?_)
   show(if g=f then some u else mA g)=none
   rw[if_neg q];exact z
theorem Inv.made(I:Inv X pins σ H s):Inv X pins σ (upd (upd H s.heap.objs.size (.own (s.heap.objs.size+1))) (s.heap.objs.size+1) (.ins C s.heap.objs.size []))
  { s with heap:=(s.heap.push PySem.W.emptyDict).push (PySem.W.instObj C s.heap.objs.size) }:=by
 have e1:(s.heap.push PySem.W.emptyDict).get? s.heap.objs.size=some PySem.W.emptyDict:=Heap.get?_push_size s.heap rfl
 have e2:((s.heap.push PySem.W.emptyDict).push (PySem.W.instObj C s.heap.objs.size)).get? (s.heap.objs.size+1)=some (PySem.W.instObj C s.heap.objs.size):=by
  have:=Heap.get?_push_size (s.heap.push PySem.W.emptyDict) (o:=PySem.W.instObj C s.heap.objs.size) rfl
  rwa[Heap.size_push] at this
 have e3:(s.heap.push PySem.W.emptyDict).Ns s.heap.objs.size (fun _=>none):=⟨PySem.W.emptyDict,#[],_,e1,rfl,(fun e he=>absurd he (by simp)),fun _=>rfl⟩
 have I1:=I.laid (a:=s.heap.objs.size) (o:=.own (s.heap.objs.size+1)) (h':=s.heap.push PySem.W.emptyDict) (t':=s.toks) (fun b u q=>Heap.get?_push_of_some _ q) (Nat.le_refl _) ⟨_,e1⟩
 refine I1.laid (a:=s.heap.objs.size+1) (o:=.ins C s.heap.objs.size []) (t':=s.toks) (fun b u q=>Heap.get?_push_of_some _ q) (Nat.le_of_eq (Heap.size_push _ _)) ?_
 have ne:s.heap.objs.size≠s.heap.objs.size+1:=Nat.ne_of_lt (Nat.lt_succ_self _)
 refine⟨by rw[aO ne,aA],Nat.zero_le _,ne,e2,fun _=>none,(Heap.Ns1.of_empty e3).at fun o q=>Heap.get?_push_of_some _ q,fun _=>True.intro,fun y hy=>absurd rfl hy⟩
theorem Oc{prog:Program}{w:World}{env:Env}{e:Expr}{f:Str}{pos:Pos}{s:Shared}{Q:Value->Shared->Prop}(hb:attributeBase e f env (eval e env)=eval e env)
  (h:wpAny (model prog w) A (eval e env) (fun o s₁=>wpAny (model prog w) A (getAttr o f true) Q E s₁) E s):wpAny (model prog w) A (eval (.Attribute e f pos) env) Q E s:=
 Attribute_any_ h (by rw[arm_eval_Attribute,hb])
end
def Vj(K:PySem.W.Frag)(ta:TE)(f:Str):TE:=fun σ H Q=>ta σ H fun x H1=>∃ a C dx fs v,x=.ref a/\H1 a=some (.ins C dx fs)/\Cls K C/\jJ K C f/\fs.lookup f=some v/\Q v H1
def X5(K:PySem.W.Frag)(ta tv:TE)(f:Str):TS:=fun D σ H=>tv σ H fun y H1=>ta σ H1 fun x H2=>∃ a C dx fs,x=.ref a/\H2 a=some (.ins C dx fs)/\Cls K C/\jJ K C f/\fs.length<1000 /\
 D.nx σ (upd H2 a (.ins C dx (gY f y fs)))
section
variable{X:Cx}{o e value:Expr}{f:Str}{pos pos' tpos:Pos}{ta tv:TE}
theorem Uk(he:PE X e ta)(hb:attributeBase e f X.env (eval e X.env)=eval e X.env):PE X (.Attribute e f pos) (Vj X.K ta f):=by
 intro pins s σ H Q I h
 refine Oc hb (thn (he pins s σ H _ I h) fun u s1 ⟨x,H1,I1,rx,a,C,dx,fs,v,ex,ea,c,n,l,q⟩=>?_)
 subst ex
 obtain rfl:u=Value.ref a:=rx
 exact Dj I1 ea c n l fun u' s2 I2 ru=>⟨v,H1,I2,ru,q⟩
theorem Uy(ha:PE X o ta)(hv:PE X value tv)(hs:swapsWith value (some (.Attribute o f pos')) pos.line X.env=pure false):PS X (.Assign [.Attribute o f pos'] value pos) (X5 X.K ta tv f):=by
 intro pins s σ H D I h
 refine plainObj_wpAny_Assign_Attribute (thn (hv pins s σ H _ I h) fun u s1 ⟨y,H1,I1,ry,q⟩=>thn (ha pins s1 σ H1 _ I1 q) fun ov s2 ⟨x,H2,I2,rx,a,C,dx,fs,ex,ea,c,n,l,q2⟩=>?_) hs
 subst ex
 obtain rfl:ov=Value.ref a:=rx
 exact Ek I2 ea c n l ry fun s3 I3=>⟨σ,_,I3,q2⟩
end
section
variable{X:Cx}{pins:List (Addr×Obj)}{σ:St}{H:Hp}{s:Shared}{A:Around}{E:Value->Shared->Prop}{Q:Value->Shared->Prop}{c:Value}{b:Bool}
inductive qx(K:PySem.W.Frag)(H:Hp):V->Value->Prop where
 |non:qx K H .non (.type "NoneType")
 |bl (x:Bool):qx K H (.bl x) (.type "bool")
 |int (i:Int):qx K H (.int i) (.type "int")
 |str (x:Str):qx K H (.str x) (.type "str")
 |flt (x:UInt64):qx K H (.flt x) (.type "float")
 |lst {a:Addr} {xs:List V} (e:H a=some (.lst xs)):qx K H (.ref a) (.type "list")
 |frz {a:Addr} {o:Obj} {xs:List V} (e:H a=some (.frz o (.lst xs))):qx K H (.ref a) (.type "list")
 |tup {a:Addr} {xs:List V} (e:H a=some (.tup xs)):qx K H (.ref a) (.type "tuple")
 |dK {a:Addr} {kvs:List (Key×V)} (e:H a=some (.dK kvs)):qx K H (.ref a) (.type "dict")
 |dT {a:Addr} {kvs:List (List Key×V)} (e:H a=some (.dT kvs)):qx K H (.ref a) (.type "dict")
 |ins {a C dx:Addr} {fs:List (Str×V)} (e:H a=some (.ins C dx fs)) (cl:Cls K C) (ha:PySem.W.findIn K (.ref C) "__class__" = some (some (.builtin "object.__class__")))
   (hn:PySem.W.specialIn K (.builtin "object.__class__") "__get__" = some (some (.builtin "getset_descriptor.__get__"))) (htk:PySem.W.takesIn K (.builtin "object.__class__")=some true)
   (hm:PySem.W.mroIn K C (.type "object")=some true):qx K H (.ref a) (.ref C)
theorem I9{x:V}{u t:Value}(I:Inv X pins σ H s)(rx:RelV x u)(ty:qx X.K H x t)(e:PySem.W.kitOne X.K t c=some b)(h:∀ tk,Q (.bool b) { s with toks:=tk }) :
  wpAny (model X.prog X.w) A (call (.builtin "isinstance") [u,c]) Q E s:=by
 cases ty with
 |non=>cases (show u=Value.none from rx);exact PySem.W.kia_one PySem.W.kitx_none I.kIn True.intro e (fun z=>nomatch z) h
 |bl y=>cases (show u=Value.bool y from rx);exact PySem.W.kia_one PySem.W.kitx_bool I.kIn True.intro e (fun z=>nomatch z) h
 |int i=>obtain⟨t,q⟩:=(show ∃ t,u=Value.int i t from rx);cases q;exact PySem.W.kia_one PySem.W.kitx_int I.kIn True.intro e (fun z=>nomatch z) h
 |str y=>obtain⟨t,q⟩:=(show ∃ t,u=Value.str y t from rx);cases q;exact PySem.W.kia_one PySem.W.kitx_str I.kIn True.intro e (fun z=>nomatch z) h
 |flt y=>obtain⟨t,q⟩:=(show ∃ t,u=Value.float y t from rx);cases q;exact PySem.W.kia_one PySem.W.kitx_float I.kIn True.intro e (fun z=>nomatch z) h
 |@lst a xs ea=>
  cases (show u=Value.ref a from rx)
  obtain⟨_,_,n,_,h1⟩:=(show cM X.prog X.w H s.heap a (.lst xs) from I.hok a _ ea)
  exact PySem.W.kia_one PySem.W.kitx_list I.kIn ⟨_,h1,rfl⟩ e (fun z=>nomatch z) h
 |@frz a ob xs ea=>
  cases (show u=Value.ref a from rx)
  obtain⟨_,_,_,n,_,h1⟩:=(show cM X.prog X.w H s.heap a (.frz ob (.lst xs)) from I.hok a _ ea)
  exact PySem.W.kia_one PySem.W.kitx_list I.kIn ⟨_,h1,rfl⟩ e (fun z=>nomatch z) h
 |@tup a xs ea=>
  cases (show u=Value.ref a from rx)
  obtain⟨_,_,_,p⟩:=(show cM X.prog X.w H s.heap a (.tup xs) from I.hok a _ ea)
  obtain⟨o,h1,h2,_⟩:=p
  exact PySem.W.kia_one PySem.W.kitx_tuple I.kIn ⟨o,h1,h2⟩ e (fun z=>nomatch z) h
 |@dK a kvs ea=>
  cases (show u=Value.ref a from rx)
  obtain⟨_,_,vs,_,p⟩:=(show cM X.prog X.w H s.heap a (.dK kvs) from I.hok a _ ea)
  obtain⟨o,es,ep,h1,h2,_⟩:=p
  exact PySem.W.kia_one PySem.W.kitx_dict I.kIn ⟨o,h1,h2.1⟩ e (fun z=>nomatch z) h
 |@dT a kvs ea=>
  cases (show u=Value.ref a from rx)
  obtain⟨_,_,xs,_,o,es,ep,h1,h2,_⟩:=(show cM X.prog X.w H s.heap a (.dT kvs) from I.hok a _ ea)
  exact PySem.W.kia_one PySem.W.kitx_dict I.kIn ⟨o,h1,h2.1⟩ e (fun z=>nomatch z) h
 |@ins a C dx fs ea cl ha hn htk hm=>
  cases (show u=Value.ref a from rx)
  obtain⟨mA,O,_⟩:=yR I.hok ea
  obtain⟨od,J,_⟩:=O.look
  exact PySem.W.kia_one (PySem.W.kitx_own (cl.get _) cl.hd ha hn htk hm) I.kIn J e (fun z=>nomatch z) h
end
end L2
namespace L2
open PySem PySem.Spec PyProof.Rows
structure dX(k:Nat)(A:Around):Prop where
 hd:A.handled=none
 dp:A.depth+3*k+5<recursionLimit
 un:A.units+16*k+200<cLine
theorem dX.mono{j k:Nat}{A:Around}(r:dX k A)(h:j<=k):dX j A:=⟨r.hd,by have:=r.dp;lia,by have:=r.un;lia⟩
theorem dX.deeper{k:Nat}{A:Around}(r:dX (k+1) A)(env:Env):dX k (A.deeper env):=
 ⟨r.hd,by have:=r.dp;show A.depth+1+3*k+5<_;lia,by have:=r.un;show A.units+3+16*k+200<_;lia⟩
theorem Dq{A:Around}{C:Addr}{us:List Value}{kw:List (Str×Value)}:(A.under (.builtin "type.__call__" ⟨.ref C::us,kw⟩)).depth=A.depth+1:=by
 first|rfl|simp[Around.under,Code.weight,Code.isCreation,Code.isGuard,Code.isCaller,Code.frames,Code.isFrame,guardIds]
theorem Ds{A:Around}{C:Addr}{us:List Value}{kw:List (Str×Value)}:(A.under (.builtin "type.__call__" ⟨.ref C::us,kw⟩)).units=A.units+1:=by
 first|rfl|simp[Around.under,Code.cUnits,Code.frames,Code.isFrame]
theorem dX.make{k:Nat}{A:Around}(r:dX (k+1) A)(C:Addr)(us:List Value)(kw:List (Str×Value)):dX k (A.under (.builtin "type.__call__" ⟨.ref C::us,kw⟩)):=
 ⟨r.hd,by have:=r.dp;rw[Dq];lia,by have:=r.un;rw[Ds];lia⟩
theorem dX.depth{k:Nat}{A:Around}(r:dX k A):A.depth<recursionLimit:=by have:=r.dp;lia
theorem dX.units{k:Nat}{A:Around}(r:dX k A):A.units+64<cLine:=by have:=r.un;lia
def je:TA:=fun _ H Q=>Q [] H
def BL(ta:TE)(tr:TA):TA:=fun σ H Q=>ta σ H fun x H1=>tr σ H1 fun xs H2=>Q (x::xs) H2
section
variable{X:Cx}{e:Expr}{es:List Expr}{te:TE}{t:TA}{pos:Pos}
theorem Ug:PA X [] je:=fun _ _ _ _ H Q I h=>Calls.spliced_nil ⟨[],H,I,.nil,h⟩
theorem Q7(ha:PE X e te)(hr:PA X es t)(hs:starEach (e::es) X.env=(false,eval e X.env)::starEach es X.env:=by rfl):PA X (e::es) (BL te t):=by
 intro pos pins s σ H Q I h
 rw[hs]
 show wpAny _ _ (spliced ((false,eval e X.env)::backTo pos (starEach es X.env))) _ _ s
 refine Calls.spliced_cons (thn (ha pins s σ H _ I h) fun u s1 ⟨x,H1,I1,r1,q1⟩=>?_)
 exact thn (hr pos pins s1 σ H1 _ I1 q1) fun us s2 ⟨xs,H2,I2,r2,q2⟩=>⟨x::xs,H2,I2,.cons r1 r2,q2⟩
def Vn(t:TA):TE:=fun σ H Q=>t σ H fun xs H1=>xs.length<=sizeLine/\∀ p,H1 p=none->Q (.ref p) (upd H1 p (.tup xs))
def Vl(t:TA):TE:=fun σ H Q=>t σ H fun xs H1=>xs.length<=sizeLine/\∀ p,H1 p=none->Q (.ref p) (upd H1 p (.lst xs))
theorem Ur {x1} (h:PA X es t):PE X (.Tuple es x1 pos) (Vn t):=by
 intro pins s σ H Q I hq
 refine wpAny_Tuple_spliced (thn (h pos pins s σ H _ I hq) fun us s1 ⟨xs,H1,I1,r,z,q⟩=>⟨by rw[<- r.length];exact z,?_⟩)
 have hf:H1 s1.heap.objs.size=none:=I1.hok.fresh (Nat.le_refl _)
 refine⟨.ref s1.heap.objs.size,upd H1 s1.heap.objs.size (.tup xs),I1.laid (t':=s1.toks) (fun b u e=>Heap.get?_push_of_some _ e) (Nat.le_refl _) ?_,rfl,q _ hf⟩
 exact⟨z,us,r,⟨_,Heap.get?_push_size _ rfl,rfl,_,rfl⟩⟩
theorem Um(h:PA X es t):PE X (.List es pos) (Vl t):=by
 intro pins s σ H Q I hq
 refine wpAny_List_spliced (thn (h pos pins s σ H _ I hq) fun us s1 ⟨xs,H1,I1,r,z,q⟩=>⟨by rw[<- r.length];exact z,?_⟩)
 have hf:H1 s1.heap.objs.size=none:=I1.hok.fresh (Nat.le_refl _)
 refine⟨.ref s1.heap.objs.size,upd H1 s1.heap.objs.size (.lst xs),I1.laid (t':=s1.toks) (fun b u e=>Heap.get?_push_of_some _ e) (Nat.le_refl _) ?_,rfl,q _ hf⟩
 exact⟨z,us,0,r,Heap.get?_push_size _ rfl⟩
end
abbrev Sp:=List V->Hp->VK->XK->Prop
abbrev CXT:=List Env->Hp->Shared->XK->Value->Shared->Prop
structure Cd(P:Program)(w:World)(K:PySem.W.Frag)(mg:Str->Option Value)(base:Heap)(A:Around)(outer:List Env)(s:Shared)(H:Hp):Prop where
 frames:A.frames=some outer
 mod:Mod K mg base
 bs:∀ b o,base.get? b=some o->s.heap.get? b=some o/\H b=none
 bsz:base.objs.size<=s.heap.objs.size
 pD:s.heap.FunFrames base outer
 frf:∀ b∈frs outer,H b=none
 hok:HOk P w H s.heap
 bare:AllBare s.gens
def CE(outer:List Env)(P:Program)(w:World)(H:Hp)(s:Shared)(Q:VK)(u:Value)(s':Shared):Prop:=
 ∃ v H',s'.os=s.os/\AllBare s'.gens/\Un (frs outer) [] H H' s.heap s'.heap/\HOk P w H' s'.heap/\RelV v u/\Q v H'
def CR(CX:CXT)(outer:List Env)(P:Program)(w:World)(H:Hp)(s:Shared)(Q:VK)(E:XK)(r:Result)(s':Shared):Prop:=
 match r with
 |.ok (.ret u)=>CE outer P w H s Q u s'
 |.ok _=>False
 |.error e=>CX outer H s E e s'
structure cu(P:Program)(w:World)(K:PySem.W.Frag)(mg:Str->Option Value)(base:Heap)(CX:CXT)(k:Nat)(f:Addr)(fd:FuncData)(ps:List Str)(sp:Sp):Prop where
 len:∀ vs H Q E,sp vs H Q E->vs.length=ps.length
 run:∀(A:Around)(outer:List Env)(s:Shared)(H:Hp)(args:Args)(us:List Value)(vs:List V)(Q:VK)(E:XK),dX k A->Cd P w K mg base A outer s H->BindsTo s fd args (ps.zip us)->Vals vs us->sp vs H Q E ->
  codeAny (model P w) A (.call (.ref f) args) (CR CX outer P w H s Q E) s
theorem Cd.make{P:Program}{w:World}{K:PySem.W.Frag}{mg:Str->Option Value}{base:Heap}{A:Around}{outer:List Env}{s:Shared}{H:Hp}(e:Cd P w K mg base A outer s H)(C:Addr)(us:List Value)(kw:List (Str×Value)) :
  Cd P w K mg base (A.under (.builtin "type.__call__" ⟨.ref C::us,kw⟩)) outer s H:=⟨by first|exact e.frames|(simpa [Around.under,Code.envs,Code.isFrame,pushEnvs] using e.frames),e.mod,e.bs,e.bsz,e.pD,e.frf,e.hok,e.bare⟩
section
variable{X:Cx}{pins:List (Addr×Obj)}{σ:St}{H:Hp}{s s':Shared}
theorem Inv.env0(I:Inv X pins σ H s):Cd X.prog X.w X.K X.mg X.base X.A X.stack s H:=
 ⟨I.ok.frames,I.ok.mod,I.bs,Nat.le_trans I.ok.bsz I.sz,I.stack,I.ug,I.hok,I.bare⟩
theorem Inv.after{Q:VK}{u:Value}(I:Inv X pins σ H s)(h:CE X.stack X.prog X.w H s Q u s'):EP X pins σ Q u s':=by
 obtain⟨v,H',os,bare,un,hok,r,q⟩:=h
 obtain⟨hh,g,d,t,os'⟩:=s'
 obtain rfl:os'=s.os:=os
 exact⟨v,H',I.call (h':=hh) (g':=g) (d':=d) (t':=t) (ch:=[]) un hok bare (fun b z=>absurd z (by simp)),r,q⟩
end
def GX(sp:Sp)(dvs:List V)(E:XK)(t:TA):TE:=fun σ H Q=>t σ H fun vs H1=>sp (vs++dvs) H1 Q E
def Ny(C:Addr)(sp:Sp)(dvs:List V)(E:XK)(t:TA):TE:=fun σ H Q=>t σ H fun vs H1=>∀ x dx,H1 x=none->H1 dx=none->dx≠x ->
 sp (.ref x::(vs++dvs)) (upd (upd H1 dx (.own x)) x (.ins C dx [])) (fun v H2=>v=.non/\Q (.ref x) H2) E
def Binds(K:PySem.W.Frag)(fd:FuncData)(ps:List Str)(ds:List Value):Prop:=
 ∀(s:Shared)(us:List Value),K.In s.heap->(us++ds).length=ps.length->BindsTo s fd ⟨us,[]⟩ (ps.zip (us++ds))
theorem Binds.all{K:PySem.W.Frag}{fd:FuncData}{ps:List Str}(h:∀ us:List Value,us.length=ps.length->bindArgs fd ⟨us,[]⟩=pure (ps.zip us)):Binds K fd ps []:=fun s us _ hl=>by
 rw[List.append_nil] at hl ⊢
 exact .of_eq (h us hl)
def Passes(CX:CXT)(X:Cx)(E:XK):Prop:=∀(pins:List (Addr×Obj))(σ:St)(H:Hp)(s:Shared)(e:Value)(s':Shared),Inv X pins σ H s->CX X.stack H s E e s'->X.xe e s'
section
variable{X:Cx}{CX:CXT}{k:Nat}{f C:Addr}{fd:FuncData}{ps:List Str}{sp:Sp}{dvs:List V}{ds:List Value}{E:XK}{x m:Str}{p pos apos:Pos}{e o:Expr}{es:List Expr}{ta:TE}{t:TA}
theorem Ve{pins:List (Addr×Obj)}{σ:St}{H:Hp}{s:Shared}{Q:VK}{us:List Value}{vs:List V}(F:cu X.prog X.w X.K X.mg X.base CX k f fd ps sp)(hr:dX k X.A)(hb:Binds X.K fd ps ds)(hd:Vals dvs ds)(hx:Passes CX X E)
  (I:Inv X pins σ H s) (r:Vals vs us) (h:sp (vs++dvs) H Q E):wpAny (model X.prog X.w) X.A (call (.ref f) us) (EP X pins σ Q) X.xe s:=by
 have r2:Vals (vs++dvs) (us++ds):=r.append hd
 have hl:(us++ds).length=ps.length:=by rw[<- r2.length];exact F.len _ _ _ _ h
 refine wpAny_call (codeAny_mono (F.run X.A X.stack s H ⟨us,[]⟩ (us++ds) (vs++dvs) Q E hr I.env0 (hb s us I.kIn hl) r2 h) fun r s' hq=>?_)
 cases r with
 |error e=>exact hx pins σ H s e s' I hq
 |ok fl=>
  cases fl with
  |ret u=>exact I.after hq
  |next=>exact False.elim hq
  |brk=>exact False.elim hq
  |cont=>exact False.elim hq
theorem Qa(F:cu X.prog X.w X.K X.mg X.base CX k f fd ps sp)(hr:dX k X.A)(hg:Gl X x)(hm:X.mg x=some (.ref f))(hk:PySem.W.keepIn X.K (.ref f)=true)(hb:Binds X.K fd ps ds)(hd:Vals dvs ds)(hx:Passes CX X E)
  (ha:PA X (e::es) t) (hdb:(x==("__debug__" : Str))=false:=by decide) (he:starEach (e::es) X.env=(false,eval e X.env)::starEach es X.env:=by rfl) (hpl:(backTo pos (starEach es X.env)).any (·.1)=false:=by rfl) :
  PE X (.Call (.Name x p) (e::es) [] pos) (GX sp dvs E t):=by
 intro pins s σ H Q I h
 refine wpAny_Call_Name_kw (nF I hg hm ?_ hdb)
 refine PySem.W.callWith_K (h₀:=X.base) I.ok.mod.kin hk (thn (ha pos pins s σ H _ I h) fun us s1 ⟨vs,H1,I1,r,q⟩=>⟨I1.kIn,?_⟩) he hpl
 exact Ve F hr hb hd hx I1 r q
structure Mk(K:PySem.W.Frag)(C f:Addr):Prop where
 makes:PySem.W.makesIn K C=true
 init:PySem.W.findIn K (.ref C) "__init__" = some (some (.ref f))
 fn:PySem.W.isFn K (.ref f)=true
 kp:PySem.W.keepIn K (.ref C)=true
theorem Mw{pins:List (Addr×Obj)}{σ:St}{H:Hp}{s:Shared}{Q:VK}{us:List Value}{vs:List V}(M:Mk X.K C f)(F:cu X.prog X.w X.K X.mg X.base CX k f fd ps sp)(hr:dX (k+1) X.A)(hb:Binds X.K fd ps ds)(hd:Vals dvs ds)
  (hx:Passes CX X E) (I:Inv X pins σ H s) (r:Vals vs us)
  (h:∀ x dx,H x=none->H dx=none->dx≠x->sp (.ref x::(vs++dvs)) (upd (upd H dx (.own x)) x (.ins C dx [])) (fun v H2=>v=.non/\Q (.ref x) H2) E) :
  wpAny (model X.prog X.w) X.A (call (.ref C) us) (EP X pins σ Q) X.xe s:=by
 have hq:=h (s.heap.objs.size+1) s.heap.objs.size (I.hok.fresh (Nat.le_succ _)) (I.hok.fresh (Nat.le_refl _)) (Nat.ne_of_lt (Nat.lt_succ_self _))
 have I2:=Inv.made (C:=C) I
 have r2:Vals (V.ref (s.heap.objs.size+1)::(vs++dvs)) (Value.ref (s.heap.objs.size+1)::(us++ds)):=.cons rfl (r.append hd)
 have hl:(Value.ref (s.heap.objs.size+1)::us++ds).length=ps.length:=by
  have e:=r2.length
  rw[F.len _ _ _ _ hq] at e
  exact e.symm
 refine wpAny_call (KJ (f:=f) I.kIn M.makes M.init (beq_iff_eq.mp M.fn) (codeAny_mono (F.run _ X.stack _ _ ⟨Value.ref (s.heap.objs.size+1)::us,[]⟩ (Value.ref (s.heap.objs.size+1)::(us++ds)) _ _ E (hr.make C us [])
  (I2.env0.make C us []) (hb _ (Value.ref (s.heap.objs.size+1)::us) I2.kIn hl) r2 hq) fun r s' hq'=>?_))
 cases r with
 |error e=>exact hx pins σ _ _ e s' I2 hq'
 |ok fl=>
  cases fl with
  |ret u=>
   obtain⟨v,H',I3,rv,ev,q3⟩:=I2.after hq'
   subst ev
   exact⟨rv,⟨V.ref (s.heap.objs.size+1),H',I3,rfl,q3⟩⟩
  |next=>exact False.elim hq'
  |brk=>exact False.elim hq'
  |cont=>exact False.elim hq'
theorem Qg(M:Mk X.K C f)(F:cu X.prog X.w X.K X.mg X.base CX k f fd ps sp)(hr:dX (k+1) X.A)(hg:Gl X x)(hm:X.mg x=some (.ref C))(hb:Binds X.K fd ps ds)(hd:Vals dvs ds)(hx:Passes CX X E)
  (ha:PA X (e::es) t) (hdb:(x==("__debug__" : Str))=false:=by decide) (he:starEach (e::es) X.env=(false,eval e X.env)::starEach es X.env:=by rfl) (hpl:(backTo pos (starEach es X.env)).any (·.1)=false:=by rfl) :
  PE X (.Call (.Name x p) (e::es) [] pos) (Ny C sp dvs E t):=by
 intro pins s σ H Q I h
 refine wpAny_Call_Name_kw (nF I hg hm ?_ hdb)
 refine PySem.W.callWith_K (h₀:=X.base) I.ok.mod.kin M.kp (thn (ha pos pins s σ H _ I h) fun us s1 ⟨vs,H1,I1,r,q⟩=>⟨I1.kIn,?_⟩) he hpl
 exact Mw M F hr hb hd hx I1 r q
end
structure aW(N P:List Str)(sc:Scope):Prop where
 kind:sc.kind=.function
 co:sc.isCoroutine=false
 gen:sc.isGenerator=false
 nd:N.Nodup
 pre:N.take P.length=P
 par:∀ x∈P,sc.names.lookup x=some .local\/sc.names.lookup x=some .cell
 TQ:∀ y∈sc.names,y.2≠.free
theorem wJ{kindOf:Str->Option NameKind}{x:Str}:∀ {binds:List (Str×Value)} {m:Str->Option Value},(∀ v,(x,v)∉binds)->bindL kindOf binds m x=m x
 |[],_,_=>rfl
 |(n,v)::r,m,h=>by
  unfold bindL
  rw[wJ fun w hw=>h w (List.mem_cons_of_mem _ hw)]
  split
  ·have:x≠n:=by rintro rfl;exact h v List.mem_cons_self
   simp[this]
  ·rfl
theorem wH{kindOf:Str->Option NameKind}{x:Str}:∀ {binds:List (Str×Value)} {m:Str->Option Value},(∀ v,(x,v)∉binds)->bindC kindOf binds m x=m x
 |[],_,_=>rfl
 |(n,v)::r,m,h=>by
  unfold bindC
  rw[wH fun w hw=>h w (List.mem_cons_of_mem _ hw)]
  split
  ·rfl
  ·have:x≠n:=by rintro rfl;exact h v List.mem_cons_self
   simp[this]
theorem wI{kindOf:Str->Option NameKind}{x:Str}{v:Value}:∀ {P:List Str} {vs:List Value} {i:Nat} {m:Str->Option Value},P.Nodup->P[i]?=some x->vs[i]?=some v->kindOf x=some .local ->
  bindL kindOf (P.zip vs) m x=some v
 |[],_,_,_,_,h,_,_=>by simp at h
 |_::_,[],_,_,_,_,h,_=>by simp at h
 |p::P,w::vs,0,m,nd,h1,h2,hk=>by
  simp at h1 h2;subst h1;subst h2
  show bindL kindOf ((p,w)::P.zip vs) m p=_
  unfold bindL
  rw[wJ fun v hv=>(List.nodup_cons.mp nd).1 (List.of_mem_zip hv).1,if_pos hk]
  simp
 |p::P,w::vs,i+1,m,nd,h1,h2,hk=>by
  show bindL kindOf ((p,w)::P.zip vs) m x=_
  unfold bindL
  exact wI (i:=i) (List.nodup_cons.mp nd).2 (by simpa using h1) (by simpa using h2) hk
theorem wG{kindOf:Str->Option NameKind}{x:Str}{v:Value}:∀ {P:List Str} {vs:List Value} {i:Nat} {m:Str->Option Value},P.Nodup->P[i]?=some x->vs[i]?=some v->kindOf x≠some .local ->
  bindC kindOf (P.zip vs) m x=some v
 |[],_,_,_,_,h,_,_=>by simp at h
 |_::_,[],_,_,_,_,h,_=>by simp at h
 |p::P,w::vs,0,m,nd,h1,h2,hk=>by
  simp at h1 h2;subst h1;subst h2
  show bindC kindOf ((p,w)::P.zip vs) m p=_
  unfold bindC
  rw[wH fun v hv=>(List.nodup_cons.mp nd).1 (List.of_mem_zip hv).1,if_neg hk]
  simp
 |p::P,w::vs,i+1,m,nd,h1,h2,hk=>by
  show bindC kindOf ((p,w)::P.zip vs) m x=_
  unfold bindC
  exact wG (i:=i) (List.nodup_cons.mp nd).2 (by simpa using h1) (by simpa using h2) hk
def start(N:List Str)(vs:List V):St:=vs.map some++List.replicate (N.length-vs.length) none
def lR(CX:CXT)(P:Program)(w:World)(K:PySem.W.Frag)(mg:Str->Option Value)(base:Heap)(N:List Str)(qual:Str)(scope:Scope)(f:Addr)(cd:Value)(A:Around)(outer:List Env)(s:Shared)(H:Hp)(E:XK):Cx where
 prog:=P
 w:=w
 K:=K
 mg:=mg
 base:=base
 A:=A.deeper (envOfC qual scope s.heap.objs.size f cd)
 N:=N
 s₀:=s
 H₀:=H
 env:=envOfC qual scope s.heap.objs.size f cd
 outer:=outer
 stack:=envOfC qual scope s.heap.objs.size f cd::outer
 ex:=[]
 calm:=true
 fn:=fun _=>true
 pn:=[]
 xe:=fun e s'=>wpAny (model P w) (A.deeper (envOfC qual scope s.heap.objs.size f cd)) (leaving (envOfC qual scope s.heap.objs.size f cd) e) (fun _ s''=>CX outer H s E e s'') (fun e' s''=>CX outer H s E e' s'') s'
theorem zM{sc:Scope}{n:Nat}{x:Str}(h:sc.names.lookup x=some .cell):∃ c,(cellsFrom n sc.names []).lookup x=some c:=by
 have q:=PySem.W.cellsFrom_some sc.names n [] (.inl h)
 exact Option.isSome_iff_exists.mp q
theorem I8{CX:CXT}{P:Program}{w:World}{K:PySem.W.Frag}{mg:Str->Option Value}{base:Heap}{N ps:List Str}{qual:Str}{scope:Scope}{f:Addr}{cd:Value}{A:Around}{outer:List Env}{s s1:Shared}{H:Hp}{E:XK}{us:List Value}{vs:List V}
  (S:aW N ps scope) (hd:A.handled=none) (e0:Cd P w K mg base A outer s H) (hl:vs.length=ps.length) (r:Vals vs us)
  (x:InCallC s s.heap.objs.size (bindL (envOfC qual scope s.heap.objs.size f cd).kindOf (ps.zip us) fun _=>none) (cellsFrom (s.heap.objs.size+1) scope.names []) (bindC (envOfC qual scope s.heap.objs.size f cd).kindOf (ps.zip us) fun _=>none) s1) :
  Inv (lR CX P w K mg base N qual scope f cd A outer s H E) [] (start N vs) H s1:=by
 have hpl:ps.length<=N.length:=by have:=congrArg List.length S.pre;rw[List.length_take] at this;lia
 obtain⟨h1,tk,rfl,hk⟩:=x.done
 have noA:∀ b:Addr,b∉(lR CX P w K mg base N qual scope f cd A outer s H E).ex:=fun b z=>absurd (show b∈([]:List Addr) from z) (by simp)
 refine⟨⟨e0.mod,S.kind,rfl,rfl,Nat.le_refl _,fun y z c h1 h2=>?_,fun y hy=>?_,fun y c _ h=>?_,fun _=>hd,Around.frames_deeper e0.frames,.inr ⟨rfl,rfl⟩,fun b z=>absurd z (noA b),e0.bs,e0.bsz,fun b _ _=>noA b,fun b z=>absurd z (noA b),e0.pD,e0.frf⟩,
  rfl,e0.bare,Un.kept hk,⟨_,x.toInCall.ns,fun i y v h1 h2 h3=>?_⟩,fun y c h=>⟨_,x.cell y c h⟩,e0.hok.fresh (Nat.le_refl _),fun y c h=>?_,fun p hp=>absurd (show p∈([]:List (Addr×Obj)) from hp) (by simp),e0.hok.kept hk,?_⟩
 ·exact name_of_addr x.apart (PySem.mem_of_lookup h1) (PySem.mem_of_lookup h2)
 ·have hy:scope.names.lookup y=some .cell\/scope.names.lookup y=some .free:=hy
  rcases hy with hy|hy
  ·exact zM hy
  ·exact absurd rfl (S.TQ _ (PySem.mem_of_lookup hy))
 ·exact Nat.le_of_lt (x.above y c (PySem.mem_of_lookup h))
 ·have hi:i<vs.length:=by
   unfold start at h2
   by_cases hi:i<vs.length
   ·exact hi
   ·rw[List.getElem?_append_right (by simpa using hi)] at h2
    rw[List.getElem?_replicate] at h2
    split at h2<;>cases h2
  have ha:vs[i]?=some v:=by
   unfold start at h2
   rw[List.getElem?_append_left (by simpa using hi),List.getElem?_map] at h2
   cases e:vs[i]? with
   |none=>rw[e] at h2;cases h2
   |some a=>rw[e] at h2;cases h2;rfl
  obtain⟨u,hu,rv⟩:=r.get ha
  have hp:ps[i]?=some y:=by
   rw[<- S.pre,List.getElem?_take_of_lt (by lia)];exact h1
  have ndP:ps.Nodup:=by rw[<- S.pre];exact S.nd.sublist (List.take_sublist _ _)
  refine⟨u,rv,?_⟩
  rcases S.par y (List.mem_of_getElem? hp) with k|k
  ·exact .inl ⟨k,wI ndP hp hu k⟩
  ·obtain⟨c,e⟩:=zM (n:=s.heap.objs.size+1) k
   refine .inr ⟨.inl k,c,e,?_⟩
   have q:=x.cell y c e
   rw[wG ndP hp hu (by show scope.names.lookup y≠_;rw[k];decide)] at q
   exact q
 ·exact e0.hok.fresh (Nat.le_of_lt (x.above y c (PySem.mem_of_lookup h)))
 ·unfold start
  show _=N.length
  rw[List.length_append,List.length_map,List.length_replicate]
  lia
theorem W0{CX:CXT}{P:Program}{w:World}{K:PySem.W.Frag}{mg:Str->Option Value}{base:Heap}{k:Nat}{f:Addr}{name qual:Str}{params:Arguments}{body:List Stmt}{scope:Scope}{dV kV doc pm cdv ct oc:Value}{an od:Option Addr}
  {osl:Array (Option Value)} {N ps:List Str} {sp:Sp} (lk:K.lookup f=some ⟨oc,od,.func (PySem.W.fnOf name qual params body scope dV kV doc pm an cdv ct),osl⟩) (hcd:PySem.W.codeIn K cdv qual=true) (S:aW N ps scope)
  (len:∀ vs H Q E,sp vs H Q E->vs.length=ps.length)
  (hbody:∀(A:Around)(outer:List Env)(s:Shared)(H:Hp)(vs:List V)(Q:VK)(E:XK),dX k (A.deeper (envOfC qual scope s.heap.objs.size f cdv))->sp vs H Q E ->
   ∃ t,PSs (lR CX P w K mg base N qual scope f cdv A outer s H E) body t/\t { nx:=fun _ H'=>Q .non H',rt:=Q } (start N vs) H) :
  cu P w K mg base CX (k+1) f (PySem.W.fnOf name qual params body scope dV kV doc pm an cdv ct) ps sp:=by
 refine⟨len,fun A outer s H args us vs Q E hr e0 hb r hsp=>?_⟩
 have hl:=len _ _ _ _ hsp
 have KX:K.In s.heap:=e0.mod.kin.keeps fun b o e=>(e0.bs b o e).1
 have lim:s.heap.NoLimit:=e0.mod.nolimit.keeps fun b o e=>(e0.bs b o e).1
 have hkind:∀ y∈ps.zip us,scope.names.lookup y.1=some .local\/(scope.names.lookup y.1=some .cell/\((cellsFrom (s.heap.objs.size+1) scope.names []).lookup y.1).isSome=true):=fun⟨n,v⟩ hy=>by
  rcases S.par n (List.of_mem_zip hy).1 with q|q
  ·exact .inl q
  ·exact .inr ⟨q,PySem.W.cellsFrom_some _ _ _ (.inl q)⟩
 refine codeAny_call_function hr.depth (KX _ _ lk) rfl S.co S.gen rfl (PySem.W.codeRec_of KX hcd) (hb _ _ _ _ ?_)
 refine wpAny_newFunctionEnv_cells S.kind hkind fun env he s1 x=>?_
 subst he
 refine⟨lim.keeps x.toInCall.keep,codeAny_func ?_⟩
 obtain⟨t,ht,hq⟩:=hbody A outer s H vs Q E (hr.deeper _) hsp
 have I:Inv (lR CX P w K mg base N qual scope f cdv A outer s H E) [] (start N vs) H s1:=I8 S hr.hd e0 hl r x
 refine wpAny_mono (ht [] s1 (start N vs) H _ I hq) (fun fl s' hs=>?_) fun e s' hs=>hs
 have fin:∀ {σ':St} {H':Hp} {v:V} {u:Value},Inv (lR CX P w K mg base N qual scope f cdv A outer s H E) [] σ' H' s'->RelV v u->Q v H'->CE outer P w H s Q u s':=
  fun {σ' H' v u} J rv q=>⟨v,H',J.os,J.bare,J.base,J.hok,rv,q⟩
 cases fl with
 |ret u=>
  obtain⟨v,σ',H',J,rv,q⟩:=hs
  exact fin J rv q
 |next=>
  obtain⟨σ',H',J,q⟩:=hs
  exact fin (v:=V.non) (u:=Value.none) J rfl q
 |brk=>
  obtain⟨_,_,_,q⟩:=hs
  exact False.elim q
 |cont=>
  obtain⟨_,_,_,q⟩:=hs
  exact False.elim q
end L2
namespace L2
open PySem PySem.Spec PyProof.Rows
section
variable{X:Cx}{x:Str}{p pos:Pos}{e:Expr}{es:List Expr}{t:TA}{id T:String}{r:List V->Hp->VK->Prop}
def tCB(r:List V->Hp->VK->Prop)(t:TA):TE:=fun σ H Q=>t σ H fun vs H1=>r vs H1 Q
theorem Lp(hc:cA X (.builtin id) r)(hg:Gl X x)(hm:X.mg x=none)(hv:bootBuiltins x=some (.builtin id))(ha:PA X (e::es) t) (hn:x ≠ "__name__":=by decide) (hdb:(x==("__debug__" : Str))=false:=by decide)
  (he:starEach (e::es) X.env=(false,eval e X.env)::starEach es X.env:=by rfl) (hpl:(backTo pos (starEach es X.env)).any (·.1)=false:=by rfl):PE X (.Call (.Name x p) (e::es) [] pos) (tCB r t):=by
 intro pins s σ H Q I h
 refine wpAny_Call_Name_kw (qT I hg hm hv ?_ hn hdb)
 exact PyProof.Rows.callWith_builtin1 (thn (ha pos pins s σ H _ I h) fun us s1 ⟨vs,H1,I1,r1,q1⟩=>hc pins s1 σ H1 vs us Q I1 r1 q1) he hpl
theorem J0(hc:cA X (.type T) r)(hg:Gl X x)(hm:X.mg x=none)(hv:bootBuiltins x=some (.type T))(ha:PA X (e::es) t) (hn:x ≠ "__name__":=by decide) (hdb:(x==("__debug__" : Str))=false:=by decide)
  (he:starEach (e::es) X.env=(false,eval e X.env)::starEach es X.env:=by rfl) (hpl:(backTo pos (starEach es X.env)).any (·.1)=false:=by rfl):PE X (.Call (.Name x p) (e::es) [] pos) (tCB r t):=by
 intro pins s σ H Q I h
 refine wpAny_Call_Name_kw (qT I hg hm hv ?_ hn hdb)
 exact PyProof.Rows.callWith_type1 (thn (ha pos pins s σ H _ I h) fun us s1 ⟨vs,H1,I1,r1,q1⟩=>hc pins s1 σ H1 vs us Q I1 r1 q1) he hpl
end
end L2
namespace HT
open PySem PyProof.Rows
section
open PySem.SeqAt
open PySem.AutoSeq1 (wpAny_loadPart')
open PySem.MeetsSeq PySem.MeetsSeq2 PySem.MeetsSeq3
end
section
variable{prog:Program}{w:World}{A:Around}{E:Value->Shared->Prop}{s:Shared}
def sIx(n d:Nat):Option Int->Nat
 |none=>d
 |some v=>if v<0 then(v+(n:Int)).toNat else min v.toNat n
theorem mz(n d:Nat):sIx n d none=d:=rfl
theorem pX(n d k:Nat):sIx n d (some (k:Int))=min k n:=by
 show(if(k:Int)<0 then((k:Int)+(n:Int)).toNat else min (k:Int).toNat n)=min k n
 rw[if_neg (by lia),Int.toNat_natCast]
theorem Mx(n d:Nat)(hd:d<=n)(o:Option Int):sIx n d o<=n:=by
 cases o with
 |none=>exact hd
 |some v=>
  show(if v<0 then(v+(n:Int)).toNat else min v.toNat n)<=n
  by_cases hv:v<0
  ·rw[if_pos hv];lia
  ·rw[if_neg hv];exact Nat.min_le_right _ _
end
end HT
namespace L2
open PySem PySem.Spec PyProof.Rows
abbrev TO:=St->Hp->(Option Int->Hp->Prop)->Prop
def PO(X:Cx)(e:Option Expr)(t:TO):Prop:=
 ∀(pins:List (Addr×Obj))(s:Shared)(σ:St)(H:Hp)(Q:Option Int->Hp->Prop),Inv X pins σ H s->t σ H Q ->
  wpAny (model X.prog X.w) X.A (evalPart e X.env) (fun u s'=>∃ o H',Inv X pins σ H' s'/\IsPart u o/\Q o H') X.xe s
def GZ:TO:=fun _ H Q=>Q none H
def RQ(t:TE):TO:=fun σ H Q=>t σ H fun x H1=>∃ i,x=.int i/\Q (some i) H1
theorem intsAre_of{ns:List Int}:∀ {us:List Value},Vals (ns.map V.int) us->IntsAre us ns:=by
 induction ns with
 |nil=>intro us r;rw[List.map_nil] at r;cases r;exact .nil
 |cons n ns ih=>
  intro us r
  rw[List.map_cons] at r
  cases r with
  |cons r1 r2=>
   obtain⟨t,e⟩:=r1
   subst e
   exact .cons n t (ih r2)
section
variable{X:Cx}{e:Expr}{te:TE}{lo hi:Option Expr}{tl th:TO}{pos p2:Pos}
theorem Qp:PO X none GZ:=by
 intro pins s σ H Q I h
 rw[evalPart_none]
 exact wpAny_pure ⟨none,H,I,.none,h⟩
theorem Qq(h:PE X e te):PO X (some e) (RQ te):=by
 intro pins s σ H Q I hw
 rw[evalPart_some]
 refine thn (h pins s σ H _ I hw) fun u s1 ⟨x,H1,I1,r1,q1⟩=>?_
 obtain⟨i,rfl,q⟩:=q1
 obtain⟨t,rfl⟩:=r1
 exact⟨some i,H1,I1,.int i t,q⟩
def SlR(X:Cx)(r:V->Option Int->Option Int->Hp->VK->Prop):Prop:=
 ∀(pins:List (Addr×Obj))(s:Shared)(σ:St)(H:Hp)(x:V)(v vl vu:Value)(lo hi:Option Int)(sl:Addr)(Q:VK),Inv X pins σ H s->RelV x v->s.heap.IsSliceOf sl vl vu .none->IsPart vl lo->IsPart vu hi->r x lo hi H Q ->
  ∃ T id,typeLookup (.type T) "__getitem__" = pure (some (.builtin id))/\s.TypeIs v T/\wpAny (model X.prog X.w) X.A (getItem v (.ref sl)) (EP X pins σ Q) X.xe s
theorem SlR.or{r r':V->Option Int->Option Int->Hp->VK->Prop}(h:SlR X r)(h':SlR X r'):SlR X (fun x lo hi H Q=>r x lo hi H Q\/r' x lo hi H Q):=by
 intro pins s σ H x v vl vu lo hi sl Q I rx hs pl pu q
 rcases q with q|q
 ·exact h pins s σ H x v vl vu lo hi sl Q I rx hs pl pu q
 ·exact h' pins s σ H x v vl vu lo hi sl Q I rx hs pl pu q
def tSl(r:V->Option Int->Option Int->Hp->VK->Prop)(te:TE)(tl th:TO):TE:=fun σ H Q=>te σ H fun x H1=>tl σ H1 fun l H2=>th σ H2 fun u H3=>r x l u H3 Q
theorem Lx{r:V->Option Int->Option Int->Hp->VK->Prop}(hr:SlR X r)(he:PE X e te)(hl:PO X lo tl)(hu:PO X hi th):PE X (.Subscript e (.Slice lo hi none p2) pos) (tSl r te tl th):=by
 intro pins s σ H Q I h
 refine Subscript_ (thn (he pins s σ H _ I h) fun v s1 ⟨x,H1,I1,r1,q1⟩=>?_)
 refine wpAny_Slice (thn (hl pins s1 σ H1 _ I1 q1) fun vl s2 ⟨l,H2,I2,pl,q2⟩=>thn (hu pins s2 σ H2 _ I2 q2) fun vu s3 ⟨u,H3,I3,pu,q3⟩=>?_)
 rw[evalPart_none]
 refine wpAny_pure ?_
 have I4:Inv X pins σ H3 { s3 with heap:=s3.heap.push { cls:=.type "slice",data:=.fields #[vl,vu,.none] } }:=I3.kept (t':=s3.toks) fun b ob q=>Heap.get?_push_of_some _ q
 obtain⟨T,id,hT,ht,hg⟩:=hr pins { s3 with heap:=s3.heap.push { cls:=.type "slice",data:=.fields #[vl,vu,.none] } } σ H3 x v vl vu l u s3.heap.objs.size Q I4 r1 (Heap.IsSliceOf.new ..) pl pu q3
 show wpAny (model X.prog X.w) X.A (subscriptTail e (.Slice lo hi none p2) v (.ref s3.heap.objs.size)) (EP X pins σ Q) X.xe { s3 with heap:=s3.heap.push { cls:=.type "slice",data:=.fields #[vl,vu,.none] } }
 exact tail_any (ops:=[.ref s3.heap.objs.size,v]) ht hT hg (by with_unfolding_all rfl)
def uK(xs:List V)(lo hi:Option Int):List V:=(xs.drop (HT.sIx xs.length 0 lo)).take (HT.sIx xs.length xs.length hi-HT.sIx xs.length 0 lo)
theorem zP(xs:List V)(lo hi:Option Int):(uK xs lo hi).length<=xs.length:=by
 unfold uK
 rw[List.length_take,List.length_drop]
 lia
end
end L2
namespace L2
open PySem PySem.Spec PyProof.Rows
def ixN(n:Nat)(i:Int):Option Nat:=if 0<=i then(if i<n then some i.toNat else none) else if -(n:Int)<=i then some (i+n).toNat else none
def atI{α:Type}(xs:List α)(i:Int):Option α:=(ixN xs.length i).bind fun j=>xs[j]?
theorem Ga{n:Nat}{i:Int}{j:Nat}(h:ixN n i=some j):seqIndex? i n=some j/\j<n /\ -(n:Int)<=i/\i<n:=by
 unfold ixN at h
 by_cases h0:0<=i
 ·rw[if_pos h0] at h
  by_cases h1:i<n
  ·rw[if_pos h1] at h
   have e:i.toNat=j:=Option.some.inj h
   exact⟨by rw[seqIndex_of h0 h1,e],by lia,by lia,h1⟩
  ·rw[if_neg h1] at h;cases h
 ·rw[if_neg h0] at h
  by_cases h1 : -(n:Int)<=i
  ·rw[if_pos h1] at h
   have e:(i+n).toNat=j:=Option.some.inj h
   exact⟨by rw[seqIndex_neg (by lia) h1,e],by lia,h1,by lia⟩
  ·rw[if_neg h1] at h;cases h
theorem yr{α:Type}{xs:List α}{i:Int}{v:α}(h:atI xs i=some v):∃ j,seqIndex? i xs.length=some j/\xs[j]?=some v/\j<xs.length /\ -(xs.length:Int)<=i/\i<xs.length:=by
 unfold atI at h
 cases e:ixN xs.length i with
 |none=>rw[e] at h;cases h
 |some j=>
  rw[e] at h
  obtain⟨h1,h2,h3,h4⟩:=Ga e
  exact⟨j,h1,h,h2,h3,h4⟩
theorem eZ{α:Type}{xs:List α}{j:Nat}{v:α}(h:xs[j]?=some v):atI xs (j:Int)=some v:=by
 have hj:j<xs.length:=(List.getElem?_eq_some_iff.mp h).1
 have e:ixN xs.length (j:Int)=some j:=by
  unfold ixN
  rw[if_pos (by lia),if_pos (by lia)];simp
 unfold atI;rw[e];exact h
def Ew(b:Expr):Prop:=∀ o i,subscripted b false o i=operate [o,i] (getItem o i)
def IxR(X:Cx)(r:R2):Prop:=
 ∀(value slice:Expr)(pins:List (Addr×Obj))(s:Shared)(σ:St)(H:Hp)(x y:V)(v u:Value)(Q:VK),Inv X pins σ H s->RelV x v->RelV y u->r x y H Q ->
  subscripted slice false v u=operate [v,u] (getItem v u)->wpAny (model X.prog X.w) X.A (subscriptTail value slice v u) (EP X pins σ Q) X.xe s
def MtR(X:Cx)(id:String)(r:V->List V->Hp->VK->Prop):Prop:=
 ∀(pins:List (Addr×Obj))(s:Shared)(σ:St)(H:Hp)(x:V)(xs:List V)(v:Value)(us:List Value)(Q:VK),Inv X pins σ H s->RelV x v->Vals xs us->r x xs H Q ->
  wpAny (model X.prog X.w) X.A (call (.builtin id) (v::us)) (EP X pins σ Q) X.xe s
section
variable{X:Cx}{a b:Expr}{ta tb:TE}{pos:Pos}
theorem IxR.or{r r':R2}(h:IxR X r)(h':IxR X r'):IxR X (fun x y H Q=>r x y H Q\/r' x y H Q):=by
 intro value slice pins s σ H x y v u Q I rx ry q hs
 rcases q with q|q
 ·exact h value slice pins s σ H x y v u Q I rx ry q hs
 ·exact h' value slice pins s σ H x y v u Q I rx ry q hs
theorem Wo{r:R2}(hr:IxR X r)(ha:PE X a ta)(hb:PE X b tb)(hs:Ew b):PE X (.Subscript a b pos) (tOp r ta tb):=by
 intro pins s σ H Q I h
 exact Subscript_ (S5 ha hb I h fun v u s2 x y H2 I2 rx ry q=>hr a b pins s2 σ H2 x y v u Q I2 rx ry q (hs _ _))
def WK(K:PySem.W.Frag):R2:=fun x y H Q=>∃ p xs i v,x=.ref p/\y=.int i/\SqL K H p xs/\atI xs i=some v/\Q v H
def WM(K:PySem.W.Frag):R2:=fun x y H Q=>∃ p xs i v,x=.ref p/\y=.int i/\SqT K H p xs/\atI xs i=some v/\Q v H
def WL:R2:=fun x y H Q=>∃ z i c,x=.str z/\y=.int i/\z.length<=sizeLine/\atI z.cps.toList i=some c/\Q (.str ⟨#[c]⟩) H
theorem P0:IxR X (WK X.K):=by
 intro value slice pins s σ H x y v u Q I rx ry h hs
 obtain⟨p,xs,i,z,rfl,rfl,hq,he,q⟩:=h
 cases rx
 obtain⟨t,rfl⟩:=ry
 obtain⟨its,r,pl,hz⟩:=I.list hq
 obtain⟨j,h1,h2,h3,h4,h5⟩:=yr he
 obtain⟨w,ew,rw'⟩:=r.get h2
 have hl:=r.length
 have hn:=qU
 have fin:EP X pins σ Q w s:=⟨z,H,I,rw',q⟩
 by_cases h0:0<=i
 ·have hj:i.toNat=j:=by
   rw[seqIndex_of h0 h5] at h1
   exact Option.some.inj h1
  exact item_listR pl.isList h0 (by lia) (by rw[hj];simpa using ew) fin hs
 ·have hj:(i+(its.toArray.size:Int)).toNat=j:=by
   rw[seqIndex_neg (by lia) h4] at h1
   rw[List.size_toArray,<- hl]
   exact Option.some.inj h1
  exact subscriptTail_builtinR (x:=w) pl.isList.typeIs slot_list_getitem.lookup
   (wpAny_getItem_list_neg (Q:=fun r s'=>r=w/\EP X pins σ Q r s') pl.isList (by lia) (by rw[List.size_toArray]<;>lia) (by lia) (by rw[hj];simpa using ew) ⟨rfl,fin⟩) hs
theorem Td:IxR X (WM X.K):=by
 intro value slice pins s σ H x y v u Q I rx ry h hs
 obtain⟨p,xs,i,z,rfl,rfl,hq,he,q⟩:=h
 cases rx
 obtain⟨t,rfl⟩:=ry
 obtain⟨its,r,pl,hz⟩:=I.tuple hq
 obtain⟨j,h1,h2,h3,h4,h5⟩:=yr he
 obtain⟨w,ew,rw'⟩:=r.get h2
 have hl:=r.length
 have hn:=qU
 have fin:EP X pins σ Q w s:=⟨z,H,I,rw',q⟩
 exact subscriptTail_builtinR (x:=w) pl.typeIs slot_tuple_getitem.lookup
  (getItem_tuple (j:=j) (Q:=fun r s'=>r=w/\EP X pins σ Q r s') pl (by lia) (by lia) (by rw[List.size_toArray,<- hl];exact h1) (by simpa using ew) ⟨rfl,fin⟩) hs
theorem Tc:IxR X WL:=by
 intro value slice pins s σ H x y v u Q I rx ry h hs
 obtain⟨z,i,c,rfl,rfl,hz,he,q⟩:=h
 obtain⟨t,rfl⟩:=rx
 obtain⟨t',rfl⟩:=ry
 obtain⟨j,h1,h2,h3,h4,h5⟩:=yr he
 have hl:z.cps.toList.length=z.length:=by simp[Str.length]
 rw[hl] at h1 h4 h5
 have hn:=qU
 exact tail_any (typeIs_str s z t) slot_str_getitem.lookup (getItem_str (c:=c) (by
  have e1:decide (i < -(2^63:Int))=false:=decide_eq_false (by lia)
  have e2:decide (i>=2^63)=false:=decide_eq_false (by lia)
  rw[e1,e2,Bool.or_false]) (by rw[h1];simpa using h2) ⟨.str ⟨#[c]⟩,H,I.tok _,⟨_,rfl⟩,q⟩) hs
def rIx(K:PySem.W.Frag):R2:=fun x y H Q=>WK K x y H Q\/WM K x y H Q\/WL x y H Q
theorem T9:IxR X (rIx X.K):=P0.or (Td.or Tc)
theorem Du(its:List Value)(n j:Nat)(u:Value):Obj.mapSeq (·.setIfInBounds j u) { cls:=.type "list",data:=.seq its.toArray n }={ cls:=.type "list",data:=.seq (its.set j u).toArray n }:=by
 simp[Obj.mapSeq]
theorem Inv.lst{pins:List (Addr×Obj)}{σ:St}{H:Hp}{s:Shared}{p:Addr}{xs:List V}(I:Inv X pins σ H s)(h:H p=some (.lst xs)) :
  ∃(its:List Value)(n:Nat),Vals xs its/\s.heap.get? p=some { cls:=.type "list",data:=.seq its.toArray n }/\xs.length<=sizeLine:=by
 obtain⟨z,its,n,r,e⟩:=I.hok p _ h
 exact⟨its,n,r,e,z⟩
theorem Inv.Tq{pins:List (Addr×Obj)}{σ:St}{H:Hp}{s:Shared}{p:Addr}{xs ys:List V}{its its':List Value}{n n':Nat}{f:Obj->Obj}(I:Inv X pins σ H s)(h:H p=some (.lst xs))
  (ho:s.heap.get? p=some { cls:=.type "list",data:=.seq its.toArray n }) (hf:f { cls:=.type "list",data:=.seq its.toArray n }={ cls:=.type "list",data:=.seq its'.toArray n' }) (r:Vals ys its') (hz:ys.length<=sizeLine) (t:Nat) :
  Inv X pins σ (upd H p (.lst ys)) { s with heap:=s.heap.update p f,toks:=t }:=by
 have e:(s.heap.update p f).get? p=some { cls:=.type "list",data:=.seq its'.toArray n' }:=by
  rw[Heap.get?_update_self f ho (by rw[hf]<;>rfl),hf]
 refine I.write (x:=p) (e:=p) (by rw[h];trivial) (.inl rfl) (fun b u hb q=>(Heap.get?_update_other _ _ (Ne.symm hb)).trans q) ⟨_,e⟩ ?_
 exact⟨hz,its',n',r,e⟩
def WW:V->V->V->Hp->(Hp->Prop)->Prop:=fun o i v H Q=>∃ p xs k j,o=.ref p/\i=.int k/\H p=some (.lst xs)/\ixN xs.length k=some j/\Q (upd H p (.lst (xs.set j v)))
theorem set_list:O7 X WW:=by
 intro pins s σ H o i v ov iv u Q I ro ri rv h
 obtain⟨p,xs,k,j,rfl,rfl,hp,hj,q⟩:=h
 cases ro
 obtain⟨t,rfl⟩:=ri
 obtain⟨its,n,r,ho,hz⟩:=I.lst hp
 obtain⟨h1,h2,h3,h4⟩:=Ga hj
 have hl:=r.length
 have hn:=qU
 have I':Inv X pins σ (upd H p (.lst (xs.set j v))) { s with heap:=s.heap.update p (Obj.mapSeq (·.setIfInBounds j u)) }:=
  I.Tq hp ho (Du its n j u) (r.set rv j) (by rw[List.length_set];exact hz) s.toks
 by_cases h0:0<=k
 ·have hk:k.toNat=j:=by
   rw[seqIndex_of h0 h4] at h1
   exact Option.some.inj h1
  exact PySem.W.ki_setAt ho h0 (by lia) (by rw[List.size_toArray,<- hl];exact h4) (by rw[hk];exact⟨_,I',q⟩)
 ·have hk:(k+(its.toArray.size:Int)).toNat=j:=by
   rw[seqIndex_neg (by lia) h3] at h1
   rw[List.size_toArray,<- hl]
   exact Option.some.inj h1
  exact PySem.W.ki_setBack ho (by lia) (by rw[List.size_toArray,<- hl];exact h3) (by lia) (by rw[hk];exact⟨_,I',q⟩)
theorem qb(lo hi:Option Int)(n:Nat):(sliceBounds lo hi none n).1=((HT.sIx n 0 lo:Nat):Int)/\(sliceBounds lo hi none n).2.1=((HT.sIx n n hi:Nat):Int)/\(sliceBounds lo hi none n).2.2=1:=by
 refine⟨?_,?_,rfl⟩
 ·cases lo with
  |none=>simp[sliceBounds,HT.sIx]
  |some i=>
   simp only[sliceBounds,HT.sIx,Option.getD_none,show(1:Int)>0 by decide,if_true]
   by_cases h:i<0
   ·simp only[h,if_true]<;>lia
   ·simp only[h,if_false]<;>lia
 ·cases hi with
  |none=>simp[sliceBounds,HT.sIx]
  |some i=>
   simp only[sliceBounds,HT.sIx,Option.getD_none,show(1:Int)>0 by decide,if_true]
   by_cases h:i<0
   ·simp only[h,if_true]<;>lia
   ·simp only[h,if_false]<;>lia
theorem wD(its:List Value)(lo hi:Option Int):slicePick its.toArray lo hi none=((its.drop (HT.sIx its.length 0 lo)).take (HT.sIx its.length its.length hi-HT.sIx its.length 0 lo)).toArray:=by
 obtain⟨h1,h2,h3⟩:=qb lo hi its.toArray.size
 unfold slicePick
 rw[h1,h2,h3]
 simp only[sliceRange_one,pick_run,List.size_toArray]<;>rfl
def WX(K:PySem.W.Frag):V->Option Int->Option Int->Hp->VK->Prop:=fun x lo hi H Q=>∃ a xs,x=.ref a/\SqL K H a xs/\∀ p,H p=none->Q (.ref p) (upd H p (.lst (uK xs lo hi)))
theorem R0:SlR X (WX X.K):=by
 intro pins s σ H x v vl vu lo hi sl Q I rx hs pl pu h
 obtain⟨a,xs,rfl,hx,q⟩:=h
 cases rx
 obtain⟨its,r,ht,hz⟩:=I.list hx
 have hlen:=r.length
 refine⟨"list",_,slot_list_getitem.lookup,ht.isList.typeIs,?_⟩
 refine wpAny_getItem_list_slice ht.isList hs pl pu .none (by simp) ?_ (by rw[List.size_toArray]<;>lia)
 rw[wD,<- hlen]
 refine⟨.ref s.heap.objs.size,_,I.laid (t':=s.toks) (o:=.lst (uK xs lo hi)) (fun b ob q=>Heap.get?_push_of_some _ q) (Nat.le_refl _) ?_,rfl,q _ (I.hok.fresh (Nat.le_refl _))⟩
 exact⟨Nat.le_trans (zP xs lo hi) hz,_,0,(r.drop (HT.sIx xs.length 0 lo)).take (HT.sIx xs.length xs.length hi-HT.sIx xs.length 0 lo),Heap.get?_push_size _ rfl⟩
def FP:V->Bool
 |.non=>true
 |.bl _=>true
 |.int _=>true
 |.str _=>true
 |_=>false
def eqV:V->V->Bool
 |.non,.non=>true
 |.bl a,.bl b=>a==b
 |.bl a,.int b=>(if a then 1 else 0)==b
 |.int a,.bl b=>a==(if b then 1 else 0)
 |.int a,.int b=>a==b
 |.str a,.str b=>a==b
 |_,_=>false
theorem Ka{A:Around}{s:Shared}{y x:V}{u v:Value}(ry:RelV y u)(rx:RelV x v)(fy:FP y=true)(fx:FP x=true):SeqAt.EqAt A s u v (eqV y x):=by
 cases y with
 |non=>
  cases ry
  cases x with
  |non=>cases rx;exact SeqAt.EqAt.same _
  |bl b=>cases rx;exact SeqAt.EqAt.none_bool b
  |int b=>obtain⟨t,rfl⟩:=rx;exact SeqAt.EqAt.none_int b t
  |str b=>obtain⟨t,rfl⟩:=rx;exact SeqAt.EqAt.none_str b t
  |_=>exact absurd (show false=true from fx) Bool.false_ne_true
 |bl a=>
  cases ry
  cases x with
  |non=>cases rx;exact SeqAt.EqAt.bool_none a
  |bl b=>cases rx;exact SeqAt.EqAt.bool_bool a b
  |int b=>obtain⟨t,rfl⟩:=rx;exact SeqAt.EqAt.bool_int a b t
  |str b=>obtain⟨t,rfl⟩:=rx;exact SeqAt.EqAt.bool_str a b t
  |_=>exact absurd (show false=true from fx) Bool.false_ne_true
 |int a=>
  obtain⟨t',rfl⟩:=ry
  cases x with
  |non=>cases rx;exact SeqAt.EqAt.int_none a t'
  |bl b=>cases rx;exact SeqAt.EqAt.int_bool a t' b
  |int b=>obtain⟨t,rfl⟩:=rx;exact SeqAt.EqAt.int_int a t' b t
  |str b=>obtain⟨t,rfl⟩:=rx;exact SeqAt.EqAt.int_str a t' b t
  |_=>exact absurd (show false=true from fx) Bool.false_ne_true
 |str a=>
  obtain⟨t',rfl⟩:=ry
  cases x with
  |non=>cases rx;exact SeqAt.EqAt.str_none a t'
  |bl b=>cases rx;exact SeqAt.EqAt.str_bool a t' b
  |int b=>obtain⟨t,rfl⟩:=rx;exact SeqAt.EqAt.str_int a t' b t
  |str b=>obtain⟨t,rfl⟩:=rx;exact SeqAt.EqAt.str_str a t' b t
  |_=>exact absurd (show false=true from fx) Bool.false_ne_true
 |_=>exact absurd (show false=true from fy) Bool.false_ne_true
theorem yu:cA X (.builtin "len") (fun xs H Q=>∃ p ys,xs=[.ref p]/\(SqL X.K H p ys\/SqT X.K H p ys)/\Q (.int ys.length) H):=by
 intro pins s σ H xs us Q I r h
 obtain⟨p,ys,rfl,hq,q⟩:=h
 obtain⟨u,rfl,rx⟩:=vals1 r
 cases rx
 have hn:=qU
 rcases hq with hq|hq
 ·obtain⟨its,r',pl,hz⟩:=I.list hq
  have hlen:=r'.length
  exact Calls.call_len_list pl.isList (by simp only[List.size_toArray]<;>lia) ⟨.int ys.length,H,I.tok _,⟨s.toks+1,by rw[List.size_toArray,hlen]⟩,q⟩
 ·obtain⟨its,r',pl,hz⟩:=I.tuple hq
  have hlen:=r'.length
  exact len_tuple pl (by simp only[List.size_toArray]<;>lia) ⟨.int ys.length,H,I.tok _,⟨s.toks+1,by rw[List.size_toArray,hlen]⟩,q⟩
theorem yw:cA X (.builtin "len") (fun xs H Q=>∃ z,xs=[.str z]/\z.length<=sizeLine/\Q (.int z.length) H):=by
 intro pins s σ H xs us Q I r h
 obtain⟨z,rfl,hz,q⟩:=h
 obtain⟨u,rfl,t,rfl⟩:=vals1 r
 have hn:=qU
 exact len_str (by lia) ⟨.int z.length,H,I.tok _,⟨_,rfl⟩,q⟩
theorem cA.or{f:Value}{r r':List V->Hp->VK->Prop}(h:cA X f r)(h':cA X f r'):cA X f (fun xs H Q=>r xs H Q\/r' xs H Q):=by
 intro pins s σ H xs us Q I rs q
 rcases q with q|q
 ·exact h pins s σ H xs us Q I rs q
 ·exact h' pins s σ H xs us Q I rs q
theorem yx:cA X (.type "list") (fun xs H Q=>∃ p ys,xs=[.ref p]/\(SqL X.K H p ys\/SqT X.K H p ys)/\∀ l,H l=none->Q (.ref l) (upd H l (.lst ys))):=by
 intro pins s σ H xs us Q I r h
 obtain⟨p,ys,rfl,hq,q⟩:=h
 obtain⟨u,rfl,rx⟩:=vals1 r
 cases rx
 have fin:∀(its:List Value),Vals ys its->ys.length<=sizeLine->∀(h':Heap)(c':Nat),(∀ b o',s.heap.get? b=some o'->h'.get? b=some o') ->
   h'.get? s.heap.objs.size=some { cls:=.type "list",dict:=none,data:=.seq its.toArray c',slots:=#[] }->EP X pins σ Q (.ref s.heap.objs.size) { s with heap:=h' }:=fun its r' hz h' c' kp e=>
  ⟨.ref s.heap.objs.size,_,I.laid (t':=s.toks) kp (Nat.le_refl _) (show cM X.prog X.w _ h' _ (.lst ys) from⟨hz,its,c',r',e⟩),rfl,q _ (I.hok.fresh (Nat.le_refl _))⟩
 rcases hq with hq|hq
 ·obtain⟨its,r',pl,hz⟩:=I.list hq
  have hlen:=r'.length
  obtain⟨o,ho,hc,n,hd⟩:=pl.isList
  exact call_list_seq p (.inl rfl) ho hc hd (fun h' c' kp e=>fin its r' hz h' c' kp e) (by simp only[List.size_toArray]<;>lia)
 ·obtain⟨its,r',pl,hz⟩:=I.tuple hq
  have hlen:=r'.length
  obtain⟨o,ho,hc,n,hd⟩:=pl
  exact call_list_seq p (.inr rfl) ho hc hd (fun h' c' kp e=>fin its r' hz h' c' kp e) (by simp only[List.size_toArray]<;>lia)
def tyV(K:PySem.W.Frag)(T:String)(x:V)(H:Hp):Prop:=match x with
 |.str _=>T = "str"
 |.int _=>T = "int"
 |.ref p=>(T = "list" /\ ∃ xs,SqL K H p xs)\/(T = "tuple" /\ ∃ o,K.lookup p=some o/\o.cls=.type "tuple" /\ o.dict=none) \/
   (T = "dict" /\ ((∃ kvs,H p=some (.dK kvs))\/∃ kvs,H p=some (.dT kvs)))\/(T = "set" /\ ∃ S n,H p=some (.set S n))
 |_=>False
theorem NT{pins:List (Addr×Obj)}{σ:St}{H:Hp}{s:Shared}{T:String}{x:V}{v:Value}(I:Inv X pins σ H s)(r:RelV x v)(ty:tyV X.K T x H) :
  s.TypeIs v T/\∀ a,v=.ref a->∃ ob,s.heap.get? a=some ob/\ob.dict=none:=by
 cases x with
 |str z=>
  obtain⟨t,rfl⟩:=r
  cases (show T = "str" from ty)
  exact⟨typeIs_str s z t,fun _ e=>nomatch e⟩
 |int i=>
  obtain⟨t,rfl⟩:=r
  cases (show T = "int" from ty)
  exact⟨typeIs_int s i t,fun _ e=>nomatch e⟩
 |ref p=>
  cases r
  rcases ty with⟨rfl,xs,hq⟩|⟨rfl,o,hk,hc,hd⟩|⟨rfl,hk⟩|⟨rfl,S,n,hk⟩
  ·obtain⟨its,_,pl,_⟩:=I.list hq
   refine⟨pl.isList.typeIs,fun a e=>?_⟩
   cases e
   obtain⟨o,n,e,c,hd,_⟩:=pl
   exact⟨o,e,hd⟩
  ·refine⟨⟨o,I.kIn p o hk,hc⟩,fun a e=>?_⟩
   cases e
   exact⟨o,I.kIn _ o hk,hd⟩
  ·have z:∃ o,s.heap.get? p=some o/\o.ExactDict:=by
    rcases hk with⟨kvs,hk⟩|⟨kvs,hk⟩
    ·obtain⟨_,_,_,_,o,_,_,e,ex,_⟩:=I.hok p _ hk
     exact⟨o,e,ex⟩
    ·obtain⟨_,_,_,_,o,_,_,e,ex,_⟩:=I.hok p _ hk
     exact⟨o,e,ex⟩
   obtain⟨o,e,ex⟩:=z
   refine⟨⟨o,e,ex.1⟩,fun a e2=>?_⟩
   cases e2
   exact⟨o,e,ex.2.1⟩
  ·obtain⟨o,_,_,_,e,ex,_⟩:=I.hok p _ hk
   refine⟨⟨o,e,ex.1⟩,fun a e2=>?_⟩
   cases e2
   exact⟨o,e,ex.2.1⟩
 |_=>exact False.elim ty
def Vi(K:PySem.W.Frag)(T:String)(r:V->List V->Hp->VK->Prop)(to:TE):TE:=fun σ H Q=>to σ H fun x H1=>tyV K T x H1/\r x [] H1 Q
def tBM(K:PySem.W.Frag)(T:String)(r:V->List V->Hp->VK->Prop)(to:TE)(t:TA):TE:=fun σ H Q=>to σ H fun x H1=>tyV K T x H1/\t σ H1 fun xs H2=>r x xs H2 Q
variable{o e:Expr}{es:List Expr}{to:TE}{t:TA}{name:Str}{apos cpos:Pos}{T id:String}{r:V->List V->Hp->VK->Prop}
theorem Ui(pa:PlainAttrs T)(slot:Slot T name id) (hty:typeOf (.builtin id)=pure (.type "method_descriptor")) (hm:MtR X id r) (ho:PE X o to)
  (hbase:attributeBase o name X.env (eval o X.env)=eval o X.env:=by rfl) (hline:(apos.endLine==cpos.line)=true:=by rfl):PE X (.Call (.Attribute o name apos) [] [] cpos) (Vi X.K T r to):=by
 intro pins s σ H Q I h
 refine wpAny_Call_method0_late hbase hline (thn (ho pins s σ H _ I h) fun v s1 ⟨x,H1,I1,r1,ty,q1⟩=>?_)
 obtain⟨h1,h2⟩:=NT I1 r1 ty
 exact⟨T,id,pa,slot,hty,h1,h2,Calls.callWith_builtin rfl (PySem.evalArgs_none (hm pins s1 σ H1 x [] v [] Q I1 r1 .nil q1))⟩
theorem Wn(pa:PlainAttrs T)(slot:Slot T name id) (hty:typeOf (.builtin id)=pure (.type "method_descriptor")) (hm:MtR X id r) (ho:PE X o to) (ha:PA X (e::es) t)
  (hbase:attributeBase o name X.env (eval o X.env)=eval o X.env:=by rfl)
  (hfew:((backTo cpos (starEach (e::es) X.env)).all (fun x=>!x.1)&&(backToKw cpos (keywordEach [] X.env)).all (fun x=>x.1.isSome)
   && decide ((e::es).length+([]:List Keyword).length+(if([]:List Keyword).isEmpty then 0 else 1)<30))=true:=by rfl)
  (hline:(apos.endLine==cpos.line)=true:=by rfl) (hs:starEach (e::es) X.env=(false,eval e X.env)::starEach es X.env:=by rfl) (hplain:(backTo cpos (starEach es X.env)).any (·.1)=false:=by rfl) :
  PE X (.Call (.Attribute o name apos) (e::es) [] cpos) (tBM X.K T r to t):=by
 intro pins s σ H Q I h
 refine wpAny_Call_method_late hbase hfew hline rfl (thn (ho pins s σ H _ I h) fun v s1 ⟨x,H1,I1,r1,ty,q1⟩=>?_)
 obtain⟨h1,h2⟩:=NT I1 r1 ty
 refine⟨T,id,pa,slot,hty,h1,h2,?_⟩
 have hA:=ha cpos pins s1 σ H1 _ I1 q1
 rw[hs] at hA ⊢
 refine Calls.callWith_builtin (by show(false||(backTo cpos (starEach es X.env)).any (·.1))=false;rw[hplain]<;>rfl) (Calls.evalArgs_plain ?_)
 exact thn hA fun us s2 ⟨vs,H2,I2,r2,q2⟩=>hm pins s2 σ H2 x vs v us Q I2 r1 r2 q2
end
end L2
namespace L2
open PySem PySem.Spec PyProof.Rows
def MtM(X:Cx)(id:String)(r:V->List V->Hp->VK->Prop):Prop:=
 ∀(pins:List (Addr×Obj))(s:Shared)(σ:St)(H:Hp)(x:V)(xs:List V)(v:Value)(us:List Value)(Q:VK),Inv X pins σ H s->RelV x v->Vals xs us->r x xs H Q ->
  wpAny (model X.prog X.w) X.A (call (.builtin id) (v::us)) (EP X pins σ Q) X.xe s
theorem Vals.one:∀ {x:V} {us:List Value},Vals [x] us->∃ u,us=[u]/\RelV x u
 |_,_,.cons r .nil=>⟨_,rfl,r⟩
theorem Vals.zero:∀ {us:List Value},Vals [] us->us=[]
 |_,.nil=>rfl
theorem Vals.dropLast{xs:List V}{us:List Value}(h:Vals xs us):Vals xs.dropLast us.dropLast:=by
 induction h with
 |nil=>exact .nil
 |cons r t ih=>
  cases t with
  |nil=>exact .nil
  |cons q t'=>exact .cons r ih
theorem Vals.rep{xs:List V}{us:List Value}(h:Vals xs us):∀ k:Nat,Vals (List.replicate k xs).flatten (List.replicate k us).flatten
 |0=>.nil
 |k+1=>by
  rw[List.replicate_succ,List.replicate_succ,List.flatten_cons,List.flatten_cons]
  exact Vals.append h (Vals.rep h k)
theorem Dg{α:Type}(l:List α):l.eraseIdx (l.length-1)=l.dropLast:=by
 induction l with
 |nil=>rfl
 |cons a r ih=>
  cases r with
  |nil=>rfl
  |cons b r=>
   have e:(a::b::r).length-1=((b::r).length-1)+1:=by
    have h1:(a::b::r).length=r.length+2:=rfl
    have h2:(b::r).length=r.length+1:=rfl
    lia
   rw[e,List.eraseIdx_cons_succ,ih]
   all_goals rfl
theorem foldl_rep(its:List Value):∀(k:Nat)(acc:List Value),
  List.foldl (fun x1 x2=>x1++x2) acc.toArray (List.replicate k its.toArray)=(acc++(List.replicate k its).flatten).toArray
 |0,acc=>by simp
 |k+1,acc=>by
  have e:acc.toArray++its.toArray=(acc++its).toArray:=by simp
  have e2:(acc++its)++(List.replicate k its).flatten=acc++(List.replicate (k+1) its).flatten:=by
   rw[List.replicate_succ,List.flatten_cons,List.append_assoc]
  rw[<- e2,<- foldl_rep its k (acc++its),<- e,List.replicate_succ,List.foldl_cons]
section
variable{X:Cx}{pins:List (Addr×Obj)}{σ:St}{H:Hp}{s:Shared}{l b:Addr}{xs ys zs:List V}
theorem Inv.Wf{its its':List Value}{n:Nat}{f:Array Value->Array Value}{t':Nat}(I:Inv X pins σ H s)(hH:H l=some (.lst xs))
  (e:s.heap.get? l=some { cls:=.type "list",data:=.seq its.toArray n }) (hf:f its.toArray=its'.toArray) (hv:Vals ys its') (hz:ys.length<=sizeLine) :
  Inv X pins σ (upd H l (.lst ys)) { s with heap:=s.heap.update l (Obj.mapSeq f),toks:=t' }:=by
 have q:=PySem.IsL.update e f
 rw[hf] at q
 refine I.write (x:=l) (e:=l) (by rw[hH];exact trivial) (.inl rfl) (fun b' u hb hu=>(Heap.get?_update_other s.heap (Obj.mapSeq f) (Ne.symm hb)).trans hu) ⟨_,q⟩ ?_
 exact⟨hz,its',_,hv,q⟩
theorem Inv.Wd{its:List Value}{t':Nat}(I:Inv X pins σ H s)(hv:Vals ys its)(hz:ys.length<=sizeLine) :
  Inv X pins σ (upd H s.heap.objs.size (.lst ys)) { s with heap:=s.heap.push { cls:=.type "list",data:=.seq its.toArray },toks:=t' }:=
 I.laid (fun _ _ q=>Heap.get?_push_of_some _ q) (Nat.le_refl _) ⟨hz,its,0,hv,Heap.get?_push_size _ rfl⟩
theorem Inv.fresh(I:Inv X pins σ H s):H s.heap.objs.size=none:=I.hok.fresh (Nat.le_refl _)
theorem Inv.KD(I:Inv X pins σ H s)(hH:H l=some (.lst xs)):xs.length<=sizeLine/\∃(its:List Value)(n:Nat),Vals xs its/\xs.length=its.length/\s.heap.get? l=some { cls:=.type "list",data:=.seq its.toArray n }:=by
 obtain⟨z,its,n,r,e⟩:=I.hok l _ hH
 exact⟨z,its,n,r,r.length,e⟩
theorem KZ{n:Nat}(h:n<=sizeLine):Builtin.List.listTooLong n=false:=by
 unfold Builtin.List.listTooLong
 exact decide_eq_false (by lia)
end
section
variable{X:Cx}
def Gu:V->List V->Hp->VK->Prop:=fun x vs H Q=>∃ l xs y,x=.ref l/\vs=[y]/\H l=some (.lst xs)/\xs.length<sizeLine/\Q .non (upd H l (.lst (xs++[y])))
theorem cO:MtM X "list.append" Gu:=by
 intro pins s σ H x vs v us Q I rx rv h
 obtain⟨l,xs,y,rfl,rfl,hH,hz,q⟩:=h
 cases rx
 obtain⟨u,rfl,ru⟩:=rv.one
 obtain⟨z,its,n,r,hl,e⟩:=I.KD hH
 refine call_meets F.slot_list_append ⟨_,e,rfl⟩ F.entry_list_append (F.args_list_append_2 _ _) (PySem.list_append l its.toArray n u (by rw[List.size_toArray];lia)) ⟨e,?_⟩
 refine⟨.non,_,I.Wf (its':=its++[u]) hH e (by simp) (r.append (.cons ru .nil)) ?_,rfl,q⟩
 rw[List.length_append,List.length_singleton]
 lia
def Ys:V->List V->Hp->VK->Prop:=fun x vs H Q=>∃ l xs y,x=.ref l/\vs=[]/\H l=some (.lst xs)/\xs[xs.length-1]?=some y/\Q y (upd H l (.lst xs.dropLast))
theorem TJ:MtM X "list.pop" Ys:=by
 intro pins s σ H x vs v us Q I rx rv h
 obtain⟨l,xs,y,rfl,rfl,hH,hy,q⟩:=h
 cases rx
 have hus:=rv.zero
 subst hus
 obtain⟨z,its,n,r,hl,e⟩:=I.KD hH
 obtain⟨u,hu,ru⟩:=r.get hy
 have hy':its.toArray[its.toArray.size-1]?=some u:=by
  show its.toArray[its.length-1]?=some u
  rw[<- Array.getElem?_toList,<- hl]
  exact hu
 refine call_meets F.slot_list_pop ⟨_,e,rfl⟩ F.entry_list_pop (F.args_list_pop_1 _) (MeetsSeq.list_pop_last l its.toArray n u hy' (by rw[List.size_toArray];lia)) ⟨e,?_⟩
 refine⟨y,_,I.Wf (its':=its.dropLast) hH e ?_ r.dropLast ?_,ru,q⟩
 ·show its.toArray.eraseIdxIfInBounds (its.toArray.size-1)=its.dropLast.toArray
  rw[List.size_toArray,List.eraseIdxIfInBounds_toArray,Dg]
 ·rw[List.length_dropLast]
  lia
def Yq:R2:=fun x y H Q=>∃ l b xs zs,x=.ref l/\y=.ref b/\H l=some (.lst xs)/\H b=some (.lst zs)/\xs.length+zs.length<=sizeLine/\∀ p,H p=none->Q (.ref p) (upd H p (.lst (xs++zs)))
theorem U6:OpR X (binaryOp .Add) Yq:=by
 intro pins s σ H x y v u Q I rx ry h
 obtain⟨l,b,xs,zs,rfl,rfl,hH,hB,hz,q⟩:=h
 cases rx
 cases ry
 obtain⟨z,its,n,r,hl,e⟩:=I.KD hH
 obtain⟨z2,its2,n2,r2,hl2,e2⟩:=I.KD hB
 refine PySem.P.add_list e e2 ?_ (by rw[List.size_toArray,List.size_toArray];lia)
 have ea:its.toArray++its2.toArray=(its++its2).toArray:=by simp
 rw[ea]
 exact⟨.ref _,_,I.Wd (t':=s.toks) (r.append r2) (by rw[List.length_append];lia),rfl,q _ I.fresh⟩
def Yt:R2:=fun x y H Q=>∃ l k xs,x=.ref l/\y=.int k/\H l=some (.lst xs) /\ -(2^63)<=k/\k<2^63/\xs.length*k.toNat<=sizeLine /\
 ∀ p,H p=none->Q (.ref p) (upd H p (.lst (List.replicate k.toNat xs).flatten))
theorem len_rep{α:Type}(xs:List α)(k:Nat):(List.replicate k xs).flatten.length=k*xs.length:=by
 induction k with
 |zero=>simp
 |succ k ih=>rw[List.replicate_succ,List.flatten_cons,List.length_append,ih,Nat.succ_mul,Nat.add_comm]
theorem Uc:OpR X (binaryOp .Mult) Yt:=by
 intro pins s σ H x y v u Q I rx ry h
 obtain⟨l,k,xs,rfl,rfl,hH,h1,h2,hz,q⟩:=h
 cases rx
 obtain⟨t,rfl⟩:=ry
 obtain⟨z,its,n,r,hl,e⟩:=I.KD hH
 have hlen:its.toArray.size*k.toNat<=sizeLine:=by rw[List.size_toArray,<- hl];exact hz
 have hcap:¬its.toArray.size*k.toNat>(2^63-1) / 8:=by
  have:(sizeLine:Nat)<=(2^63-1) / 8:=by decide
  lia
 have hfit:¬(!Builtin.List.listFitsIndex k)=true:=by
  rw[fitsIndex_both h1 h2]
  exact Bool.false_ne_true
 have W5:¬Builtin.List.listTooLong (its.toArray.size*k.toNat)=true:=by
  rw[KZ hlen]
  exact Bool.false_ne_true
 have hnew:List.foldl (fun x1 x2=>x1++x2) #[] (List.replicate (if its.toArray.isEmpty=true then 0 else k.toNat) its.toArray)=(List.replicate k.toNat its).flatten.toArray:=by
  have f0:∀ m:Nat,List.foldl (fun x1 x2=>x1++x2) #[] (List.replicate m its.toArray)=(List.replicate m its).flatten.toArray:=fun m=>by
   have:=foldl_rep its m []
   rw[List.nil_append] at this
   exact this
  rw[f0]
  cases its with
  |nil=>simp
  |cons a r'=>rw[if_neg (by simp)]
 refine wpAny_binaryOp_repeat_ref (T:="list") (U:="int") (by decide) ⟨_,e,rfl⟩ (fun s'=>typeIs_int s' k t) noFill_list_mul F.fills_int_mul F.slot_int_rmul repeat_list F.slot_int_index.lookup
  (call_meets F.slot_int_rmul (typeIs_int s k t) F.entry_int_rmul (F.args_int_rmul_2 _ _) (int___rmul___int_list k t l its.toArray n)
   ⟨e,rfl,⟨_,e,rfl⟩,call_meets F.slot_list_mul ⟨_,e,rfl⟩ F.entry_list_mul (F.args_list_mul_2 _ _) (AutoListH.list___mul___list_int_3 l its.toArray n k t hfit hcap W5) ⟨e,?_⟩⟩)
 rw[hnew]
 exact⟨.ref _,_,I.Wd (t':=s.toks) (r.rep k.toNat) (by rw[len_rep,Nat.mul_comm];exact hz),rfl,q _ I.fresh⟩
end
end L2
namespace Att
open PySem PySem.W PySem.Calls PyProof.Rows
theorem tG{P:Params}{h:Heap}:∀(ns:List Int)(vs:List Value),WellAll P h vs (ns.map WData.int)->IntsAre vs ns:=by
 intro ns
 induction ns with
 |nil=>
  intro vs w
  rw[List.map_nil] at w
  cases w
  exact .nil
 |cons n ns ih=>
  intro vs w
  rw[List.map_cons] at w
  cases w with
  |cons a b=>
   cases a
   exact .cons _ _ (ih _ b)
theorem Jl{l:OpenLaw}{n:Nat}(hn:l.most=some n){P:Params}{h:Heap}{args:List WData}{vals:List Value}
  (hpre:l.row.toRowW.claim.pre args=true) (hwl:WellAll P h vals args) :
  ∃ a vs ns,vals=[Value.ref a]/\args=[WData.list (ns.map WData.int)]/\h.get? a=some { cls:=.type "list",data:=.seq vs.toArray }/\IntsAre vs ns/\ns.length<=n:=by
 have hsh:WShape.hasAll [] args [.list .int]=true:=(pre_splitW hpre).1
 have hc:l.pre.holds [] { args:=args }=true:=(pre_splitW hpre).2
 obtain⟨d,r,rfl,h1,h2⟩:=hasAllW_cons hsh
 obtain rfl:=hasAllW_nil h2
 obtain⟨xs,rfl,h3⟩:=hasW_list h1
 obtain⟨ns,rfl⟩:=items_int h3
 have hlen:ns.length<=n:=by
  unfold OpenLaw.pre at hc
  have h4:(WTm.not (.lt (.lit (.int (n:Int))) (.len (.arg 0)))).holds [] { args:=[.list (ns.map .int)] }=true:=by
   have h4:=(holds_andW hc).1
   rw[hn] at h4
   exact h4
  have h5:=condW_of h4 (w_not (w_lt w_lit (w_len_list (w_arg rfl))))
  rw[List.length_map] at h5
  refine Nat.le_of_not_lt fun q=>?_
  have q':(n:Int)<((ns.length:Nat):Int):=by omega
  first
   |(rw[decide_eq_true q'] at h5;exact absurd h5 (by decide))
   |(simp at h5;omega)
 cases hwl with
 |cons w1 w2=>
  cases w2
  cases w1 with
  |list ho hall=>exact⟨_,_,ns,rfl,rfl,ho,tG ns _ hall,hlen⟩
theorem Jd(l:OpenLaw)(args:List WData):l.row.toRowW.claim.post args (.bool true) args=true:=
 postW_of (r:=l.row.toRowW) (X:=(true==true))
  (show WShape.has [] (.bool true) .bool=true by first|rfl|decide|simp[WShape.has,WShape.arms,WShape.armsAll])
  (show(WTm.eq .res (.lit (.bool true))).value [] { args:=args,res:=some (.bool true),after:=args }=some (.bool (true==true)) from w_eq_bool (w_res rfl) w_lit) rfl
theorem zK{l:OpenLaw}{n:Nat}{q:Program}{loose:List Str}{XP:(Str->Option Value)->Heap->Prop}{YP:World->Heap->Prop}{d:DefRec}
  (hn:l.most=some n) (hdf:d.params.defaults=[])
  (call:∀(w:World)(s₀ s₁:Shared)(mg mb:Str->Option Value)(fa:Addr)(o:Obj)(pm cd doc:Value)(a:Addr)(vs:List Value)(ns:List Int),
   Ground q loose [] XP w s₀ mg mb s₁.heap->YP w s₁.heap ->
   s₁.heap.get? fa=some o->o.data=.func (docDef d.name d.params d.body d.scope pm cd doc)->s₁.heap.CodeRec cd d.name->mg d.name=some (.ref fa) ->
   s₁.heap.get? a=some { cls:=.type "list",data:=.seq vs.toArray }->IntsAre vs ns->ns.length<=n->s₁.gens=#[] ->
   codeAny (model l.prog w) callerA (.call (.ref fa) ⟨[.ref a],[]⟩) (fun r s'=>r=.ok (.ret (.bool true))/\OldK s₁.heap s'.heap/\s'.os=s₁.os/\AllBare s'.gens) s₁) :
  WalkO q loose XP YP l.row.toRowW d [] (fun f vs=>PySem.call f vs):=by
 intro w s₀ s₁ mg mb G Y fa o pm cd doc dV kV ho hd hcd hD hmg hg args vals as hpre hlay hrd hwl hlo
 obtain rfl:dV=.none:=Dflts.none hD hdf
 obtain rfl:kV=.none:=Dflts.noKw hD
 obtain⟨a,vs,ns,rfl,rfl,hobj,hints,hlen⟩:=Jl hn hpre hwl
 refine enter_call (codeAny_mono (call w s₀ s₁ mg mb fa o pm cd doc a vs ns G Y ho (fd_plain hd) hcd hmg hobj hints hlen hg) fun r s' hq=>?_)
 obtain⟨rfl,h2,h3,h4⟩:=hq
 exact⟨.inl ⟨.bool true,.bool true,[],rfl,fun _=>rfl,.bool true,Jd l _,fun _=>⟨List.Pairwise.nil,fun _ hm=>(nomatch hm)⟩⟩,h2,h3,h4⟩
end Att
namespace L2
open PySem PySem.Spec PyProof.Rows
theorem yg:∀ {vs:List Value} {ns:List Int},IntsAre vs ns->Vals (ns.map V.int) vs
 |_,_,.nil=>.nil
 |_,_,.cons n t h=>.cons ⟨t,rfl⟩ (yg h)
def Only(H:Hp):Prop:=∀ b,H b=none\/∃ o xs,H b=some (.frz o (.lst xs))
theorem Kw{P:Program}{w:World}{K:PySem.W.Frag}{mg mb:Str->Option Value}{CX:CXT}{k:Nat}{fa a:Addr}{fd:FuncData}{x:Str}{sp:Sp}{s₁:Shared}{vs:List Value}{ns:List Int}
  (KX:K.In s₁.heap) (hns:s₁.heap.Ns mainGlobals mg) (hb:s₁.heap.Ns builtinsNs mb) (hbb:∀ x:Str,x ≠ "__name__" -> mb x=bootBuiltins x) (hlim:s₁.heap.NoLimit) (hg:s₁.gens=#[])
  (ha:s₁.heap.get? a=some { cls:=.type "list",data:=.seq vs.toArray }) (hi:IntsAre vs ns) (hl:ns.length<=sizeLine) (hr:dX k callerA)
  (F:∀ base:Heap,K.In base->base.Ns mainGlobals mg->cu P w K mg base CX k fa fd [x] sp) (hbind:∀(s:Shared)(u:Value),BindsTo s fd ⟨[u],[]⟩ [(x,u)])
  (hsp:∀ H:Hp,Only H->SqL K H a (ns.map V.int)->sp [.ref a] H (fun v _=>v=.bl true) fun _ _ _=>False)
  (hCX:∀ H e s',CX [] H s₁ (fun _ _ _=>False) e s'->False) :
  codeAny (model P w) callerA (.call (.ref fa) ⟨[.ref a],[]⟩) (fun r s'=>r=.ok (.ret (.bool true))/\OldK s₁.heap s'.heap/\s'.os=s₁.os/\AllBare s'.gens) s₁:=by
 have rv:=yg hi
 have lenV:=hi.length
 have core:∀ H:Hp,Only H->SqL K H a (ns.map V.int)->HOk P w H s₁.heap->(∀ b,H b≠none->b=a)->(H a≠none->K.lookup a=none) ->
   codeAny (model P w) callerA (.call (.ref fa) ⟨[.ref a],[]⟩) (fun r s'=>r=.ok (.ret (.bool true))/\OldK s₁.heap s'.heap/\s'.os=s₁.os/\AllBare s'.gens) s₁:=by
  intro H hO hS hok hA hK
  have Fj:∀ {b:Addr} {o:Obj},s₁.heap.get? b=some o->H b=none->(yP s₁.heap H).get? b=some o:=fun e n=>Ko e n
  have noA:∀ {b:Addr} {o:Obj} {es:Array DictEntry} {ep:Nat},s₁.heap.get? b=some o->o.data=.dict es ep->H b=none:=fun {b o es ep} e d=>by
   cases q:H b with
   |none=>rfl
   |some u=>
    have e':b=a:=hA b (by rw[q];simp)
    subst e'
    rw[ha] at e;cases e
    have d':Data.seq vs.toArray _=Data.dict es ep:=d
    cases d'
  have nsK:∀ {b:Addr} {m:Str->Option Value},s₁.heap.Ns b m->(yP s₁.heap H).Ns b m:=fun {b m} ⟨o,es,ep,e,d,r⟩=>⟨o,es,ep,Fj e (noA e d),d,r⟩
  have hKb:K.In (yP s₁.heap H):=fun b o e=>Fj (KX b o e) (by
   cases q:H b with
   |none=>rfl
   |some u=>
    have e':b=a:=hA b (by rw[q];simp)
    subst e'
    rw[hK (by rw[q];simp)] at e;cases e)
  have hM:Mod K mg (yP s₁.heap H):=⟨hKb,nsK hns,⟨mb,nsK hb,hbb⟩,let ⟨mc,h1,h2⟩:=hlim;⟨mc,nsK h1,h2⟩⟩
  have e0:Cd P w K mg (yP s₁.heap H) callerA [] s₁ H:=⟨rfl,hM,fun b o e=>PB e,Nat.le_of_eq (HY _ _),trivial,fun b hb=>absurd (show b∈([]:List Addr) from hb) (by simp),hok,.of_eq hg⟩
  refine codeAny_mono ((F _ hKb (nsK hns)).run callerA [] s₁ H ⟨[.ref a],[]⟩ [.ref a] [.ref a] _ _ hr e0 (hbind s₁ (.ref a)) (.cons rfl .nil) (hsp H hO hS)) fun r s' h=>?_
  cases r with
  |error e=>exact(hCX H e s' h).elim
  |ok fl=>
   cases fl with
   |next=>exact False.elim h
   |brk=>exact False.elim h
   |cont=>exact False.elim h
   |ret u=>
    obtain⟨v,H',os,bare,un,hok',r',q⟩:=h
    have q':v=.bl true:=q
    subst q'
    obtain rfl:u=Value.bool true:=r'
    refine⟨rfl,OldK.of_keep fun b o e=>?_,os,bare⟩
    cases q:H b with
    |none=>exact un.keep b o e q (by intro z;exact absurd (show b∈([]:List Addr) from z) (by simp)) (by simp)
    |some u=>
     rcases hO b with z|⟨ob,xs,z⟩
     ·rw[q] at z;cases z
     ·have z2:=un.pC b ob _ z
      obtain⟨e1,_⟩:=hok b _ z
      obtain⟨e2,_⟩:=hok' b _ z2
      rw[e] at e1;cases e1
      exact e2
 cases hk:K.lookup a with
 |some o=>
  have e:=KX a o hk
  rw[ha] at e
  cases e
  refine core (fun _=>none) (fun _=>.inl rfl) (.inr ⟨_,vs.toArray,_,hk,rfl,rfl,rfl,by rw[List.size_toArray,lenV];exact hl,by simpa using rv⟩) (fun b u z=>by have z':(none:Option HO)=some u:=z;cases z') (fun b z=>absurd rfl z) fun z=>absurd rfl z
 |none=>
  refine core (fun b=>if b=a then some (.frz { cls:=.type "list",data:=.seq vs.toArray } (.lst (ns.map V.int))) else none) (fun b=>?_) (.inl (.inr ⟨{ cls:=.type "list",data:=.seq vs.toArray },if_pos rfl⟩)) (fun b u z=>?_) (fun b z=>?_) fun _=>hk
  ·by_cases hb:b=a
   ·exact .inr ⟨_,_,if_pos hb⟩
   ·exact .inl (if_neg hb)
  ·by_cases hb:b=a
   ·have z':=(if_pos hb).symm.trans z
    cases z'
    subst hb
    exact⟨ha,by rw[List.length_map];exact hl,vs,_,rv,ha⟩
   ·have z':=(if_neg hb).symm.trans z
    cases z'
  ·by_cases hb:b=a
   ·exact hb
   ·exact absurd (if_neg hb) z
end L2
namespace L2
open PySem PySem.Spec PyProof.Rows
theorem R8{l:PySem.W.OpenLaw}{n k:Nat}{q:Program}{loose:List Str}{XP:(Str->Option Value)->Heap->Prop}{YP:World->Heap->Prop}{d:DefRec}{K:Params->PySem.W.Frag}{CX:World->CXT}{sp:World->Sp}{x:Str}
  (hn:l.most=some n) (hn2:n<=sizeLine) (hdf:d.params.defaults=[]) (hr:dX k callerA)
  (hY:∀(w:World)(h:Heap),YP w h->(K w.params).In h)
  (F:∀(w:World)(mg:Str->Option Value)(fa:Addr)(h:Heap),(K w.params).In h->h.Ns mainGlobals mg->mg d.name=some (.ref fa) ->
   ∃ fd:FuncData,(∀(s:Shared)(u:Value),BindsTo s fd ⟨[u],[]⟩ [(x,u)]) /\
    ∀ base:Heap,(K w.params).In base->base.Ns mainGlobals mg->cu l.prog w (K w.params) mg base (CX w) k fa fd [x] (sp w))
  (hsp:∀(w:World)(H:Hp)(a:Addr)(ns:List Int),ns.length<=n->Only H->SqL (K w.params) H a (ns.map V.int)->sp w [.ref a] H (fun v _=>v=.bl true) fun _ _ _=>False)
  (hCX:∀(w:World)(H:Hp)(s:Shared)(e:Value)(s':Shared),CX w [] H s (fun _ _ _=>False) e s'->False) :
  PySem.W.WalkO q loose XP YP l.row.toRowW d [] (fun f vs=>PySem.call f vs):=by
 refine Att.zK hn hdf fun w s₀ s₁ mg mb fa o pm cd doc a vs ns G Y ho hd hcd hmg hobj hints hlen hg=>?_
 have KX:=hY w _ Y
 obtain⟨fd,hb,hF⟩:=F w mg fa _ KX G.T.g hmg
 exact Kw KX G.T.g G.T.b G.T.builtins G.T.nolimit hg hobj hints (Nat.le_trans hlen hn2) hr hF hb (fun H hO hS=>hsp w H a ns hlen hO hS) fun H e s'=>hCX w H s₁ e s'
end L2
namespace L2
open PySem PySem.Spec PyProof.Rows
def inClass(s:Stmt)(j:Nat):Stmt:=match s with
 |.ClassDef _ _ _ body _ _ _ _ _ _ _=>body.getD j (.Pass ⟨0,0,0,0⟩)
 |_=>.Pass ⟨0,0,0,0⟩
def fX(s:Stmt):Arguments:=match s with
 |.FunctionDef _ a _ _ _ _ _ _ _ _=>a
 |_=>{ posonlyargs:=[],args:=[],vararg:=none,kwonlyargs:=[],kw_defaults:=[],kwarg:=none,defaults:=[] }
def dB(s:Stmt):List Stmt:=match s with
 |.FunctionDef _ _ b _ _ _ _ _ _ _=>b
 |_=>[]
def aG(s:Stmt):Scope:=match s with
 |.FunctionDef _ _ _ _ _ _ sc _ _ _=>sc
 |_=>{ kind:=.function,names:=[],isGenerator:=false,isCoroutine:=false }
abbrev E0:XK:=fun _ _ _=>False
structure Fun(K:PySem.W.Frag)(x qual:Str)(st:Stmt)(f:Addr)(fd:FuncData):Prop where
 ex:∃(oc:Value)(od:Option Addr)(kV doc pm:Value)(an:Option Addr)(cdv ct:Value)(osl:Array (Option Value)),
  fd=PySem.W.fnOf x qual (fX st) (dB st) (aG st) .none kV doc pm an cdv ct/\K.lookup f=some ⟨oc,od,.func fd,osl⟩/\PySem.W.codeIn K cdv qual=true
 kp:PySem.W.keepIn K (.ref f)=true
section
variable{P:Program}{w:World}{K:PySem.W.Frag}{mg:Str->Option Value}{base:Heap}
theorem Fun.binds{x qual:Str}{st:Stmt}{f:Addr}{fd:FuncData}{ps:List Str}(F:Fun K x qual st f fd)
  (h:∀(kV doc pm:Value)(an:Option Addr)(cdv ct:Value)(us:List Value),us.length=ps.length->bindArgs (PySem.W.fnOf x qual (fX st) (dB st) (aG st) .none kV doc pm an cdv ct) ⟨us,[]⟩=pure (ps.zip us)):Binds K fd ps []:=by
 obtain⟨oc,od,kV,doc,pm,an,cdv,ct,osl,rfl,lk,hcd⟩:=F.ex
 exact .all (h kV doc pm an cdv ct)
theorem Kg{x qual:Str}{st:Stmt}{f:Addr}{oc:Value}{od an:Option Addr}{osl:Array (Option Value)}{kV doc pm cdv ct:Value}(l:K.lookup f=some ⟨oc,od,.func (PySem.W.fnOf x qual (fX st) (dB st) (aG st) .none kV doc pm an cdv ct),osl⟩)
  (c:PySem.W.codeIn K cdv qual=true) (k:PySem.W.keepIn K (.ref f)=true):Fun K x qual st f (PySem.W.fnOf x qual (fX st) (dB st) (aG st) .none kV doc pm an cdv ct):=⟨⟨oc,od,kV,doc,pm,an,cdv,ct,osl,rfl,l,c⟩,k⟩
end
theorem nQ{A B:Prop}(h:B):if false=true then A else B:=by
 rw[if_neg Bool.false_ne_true]
 exact h
theorem tH{A B:Prop}(h:A):if true=true then A else B:=by
 rw[if_pos rfl]
 exact h
theorem wA{c A B:Prop} [Decidable c] (h1:c->A) (h2:¬c->B):if c then A else B:=by
 by_cases h:c
 ·rw[if_pos h]
  exact h1 h
 ·rw[if_neg h]
  exact h2 h
def Same(H H':Hp):Prop:=∀ b o,H b=some o->H' b=some o
theorem Same.refl(H:Hp):Same H H:=fun _ _ h=>h
theorem Same.trans{H H1 H2:Hp}(a:Same H H1)(b:Same H1 H2):Same H H2:=fun c o h=>b c o (a c o h)
theorem Same.free{H H':Hp}(e:Same H H'){l:Addr}(h:H' l=Option.none):H l=Option.none:=by
 cases q:H l with
 |none=>rfl
 |some o=>
  rw[e l o q] at h
  cases h
theorem Same.seq{K:PySem.W.Frag}{H H':Hp}{a:Addr}{xs:List V}(e:Same H H')(h:SqL K H a xs):SqL K H' a xs:=by
 rcases h with(h|⟨o,h⟩)|h
 ·exact .inl (.inl (e _ _ h))
 ·exact .inl (.inr ⟨o,e _ _ h⟩)
 ·exact .inr h
end L2
namespace L2
open PySem PySem.Spec PyProof.Rows
theorem Vals.VB{x:V}{u:Value}(r:RelV x u):Vals [x] [u]:=.cons r .nil
end L2
namespace L2
open PySem PySem.Spec PyProof.Rows
theorem Inv.track{X:Cx}{pins:List (Addr×Obj)}{σ:St}{H:Hp}{s:Shared}{D:Addr}{o:HO}(I:Inv X pins σ H s)(hn:H D=none)(h0:X.s₀.heap.objs.size<=D)(hL:D≠X.env.locals)
  (hc:∀ x c,X.env.cells.lookup x=some c->c≠D) (hp:∀ p∈X.pn++pins,p.1≠D) (new:cM X.prog X.w (upd H D o) s.heap D o):Inv X pins σ (upd H D o) s:=by
 have ne:∀ b u,H b=some u->b≠D:=fun b u e=>bG e hn
 refine⟨I.ok,I.os,I.bare,⟨I.base.keep,I.base.slot,fun b u e n hx=>?_,I.base.there,fun b xs e=>?_,fun b u xs e=>?_,fun b ps e=>?_⟩,I.loc,I.cell,?_,fun x c e=>?_,fun p q=>?_,fun b u e=>?_,I.len⟩
 ·rw[aO (Nat.ne_of_lt (Nat.lt_of_lt_of_le (Heap.lt_size e) h0))]
  exact I.base.free b u e n hx
 ·have e':=I.base.tups b xs e
  rw[aO (ne b _ e')];exact e'
 ·have e':=I.base.pC b u xs e
  rw[aO (ne b _ e')];exact e'
 ·obtain⟨more,e'⟩:=I.base.rN b ps e
  exact⟨more,by rw[aO (ne b _ e')];exact e'⟩
 ·rw[aO (Ne.symm hL)];exact I.free
 ·rw[aO (hc x c e)];exact I.iC x c e
 ·obtain⟨a1,a2,a3,a4,a5⟩:=I.pin p q
  exact⟨a1,by rw[aO (hp p q)];exact a2,a3,a4,a5⟩
 ·by_cases hb:b=D
  ·subst hb;rw[aA] at e;cases e;exact new
  ·rw[aO hb] at e
   exact(I.hok b u e).stay (fun c v _ q=>q) (fun c q=>by rw[aO (ne c _ q)];exact q) fun c xs q=>by rw[aO (ne c _ q)];exact q
def cH:List (Str×NameKind)->List (Str×Addr)->List (Str×Addr)->List (Str×Addr)
 |[],_,acc=>acc
 |(n,k)::r,cells,acc=>if k==.free then cH r cells ((n,(cells.lookup n).getD 0)::acc) else cH r cells acc
theorem CK{env:Env}:∀(names:List (Str×NameKind))(acc:List (Str×Addr)),(∀ y∈names,y.2=.free->∃ c,env.cells.lookup y.1=some c) ->
  (forIn names acc fun x cs=>(if x.2==NameKind.free then do let a <- cellOf env x.1;pure (ForInStep.yield ((x.1,a)::cs)) else pure (ForInStep.yield cs):Sem (ForInStep (List (Str×Addr)))))=pure (cH names env.cells acc):=by
 intro names
 induction names with
 |nil=>intro acc _;rfl
 |cons p r ih=>
  intro acc h
  obtain⟨n,k⟩:=p
  rw[List.forIn_cons]
  have hr:∀ y∈r,y.2=.free->∃ c,env.cells.lookup y.1=some c:=fun y hy=>h y (List.mem_cons_of_mem _ hy)
  by_cases hk:k=.free
  ·subst hk
   obtain⟨c,hc⟩:=h (n,.free) List.mem_cons_self rfl
   have hc':env.cells.lookup n=some c:=hc
   have e1:cellOf env n=pure c:=by unfold cellOf;rw[hc']
   have e2:cH ((n,NameKind.free)::r) env.cells acc=cH r env.cells ((n,c)::acc):=by
    show(if(NameKind.free==NameKind.free)=true then _ else _)=_
    rw[if_pos (by decide),hc'];rfl
   rw[e2,<- ih ((n,c)::acc) hr]
   simp only[beq_self_eq_true,if_true,e1,pure_bind]
  ·have hb:(k==NameKind.free)=false:=by simpa using hk
   have e2:cH ((n,k)::r) env.cells acc=cH r env.cells acc:=by
    show(if(k==NameKind.free)=true then _ else _)=_
    rw[hb];rfl
   rw[e2,<- ih acc hr]
   simp only[hb,Bool.false_eq_true,if_false,pure_bind]
theorem uH{env:Env}{scope:Scope}(h:∀ y∈scope.names,y.2=.free->∃ c,env.cells.lookup y.1=some c):closureFor scope env=pure (cH scope.names env.cells []):=by
 rw[<- CK scope.names [] h]
 unfold closureFor
 simp only[bind_pure]
theorem jO:∀(names:List (Str×NameKind)){cells acc:List (Str×Addr)}{x:Str}{c:Addr},(∀ y∈names,y.2=.free->∃ c,cells.lookup y.1=some c)->(∀ y d,acc.lookup y=some d->cells.lookup y=some d) ->
  (cH names cells acc).lookup x=some c->cells.lookup x=some c:=by
 intro names
 induction names with
 |nil=>intro cells acc x c _ h e;exact h x c e
 |cons p r ih=>
  intro cells acc x c h ha e
  obtain⟨n,k⟩:=p
  have hr:∀ y∈r,y.2=.free->∃ c,cells.lookup y.1=some c:=fun y hy=>h y (List.mem_cons_of_mem _ hy)
  by_cases hk:k=.free
  ·subst hk
   obtain⟨d,hd⟩:=h (n,.free) List.mem_cons_self rfl
   have hd':cells.lookup n=some d:=hd
   have e2:cH ((n,NameKind.free)::r) cells acc=cH r cells ((n,d)::acc):=by
    show(if(NameKind.free==NameKind.free)=true then _ else _)=_
    rw[if_pos (by decide),hd'];rfl
   rw[e2] at e
   refine ih hr (fun y q z=>?_) e
   rw[List.lookup_cons] at z
   split at z
   ·rename_i hy
    have hy':y=n:=by simpa using hy
    subst hy'
    cases z;exact hd'
   ·exact ha y q z
  ·have hb:(k==NameKind.free)=false:=by simpa using hk
   have e2:cH ((n,k)::r) cells acc=cH r cells acc:=by
    show(if(k==NameKind.free)=true then _ else _)=_
    rw[hb];rfl
   rw[e2] at e
   exact ih hr ha e
theorem wV:∀(names:List (Str×NameKind)){cells acc:List (Str×Addr)}{x:Str},((x,NameKind.free)∈names\/∃ d,acc.lookup x=some d)->∃ c,(cH names cells acc).lookup x=some c:=by
 intro names
 induction names with
 |nil=>
  intro cells acc x h
  rcases h with h|h
  ·exact absurd h (by simp)
  ·exact h
 |cons p r ih=>
  intro cells acc x h
  obtain⟨n,k⟩:=p
  by_cases hk:k=.free
  ·subst hk
   have e2:cH ((n,NameKind.free)::r) cells acc=cH r cells ((n,(cells.lookup n).getD 0)::acc):=by
    show(if(NameKind.free==NameKind.free)=true then _ else _)=_
    rw[if_pos (by decide)]
   rw[e2]
   refine ih ?_
   by_cases hx:x=n
   ·exact .inr ⟨(cells.lookup n).getD 0,by subst hx;simp[List.lookup_cons]⟩
   ·rcases h with h|⟨d,h⟩
    ·rcases List.mem_cons.mp h with q|q
     ·exact absurd (congrArg Prod.fst q) hx
     ·exact .inl q
    ·refine .inr ⟨d,?_⟩
     rw[List.lookup_cons]
     have:(x==n)=false:=by simpa using hx
     rw[this];exact h
  ·have hb:(k==NameKind.free)=false:=by simpa using hk
   have e2:cH ((n,k)::r) cells acc=cH r cells acc:=by
    show(if(k==NameKind.free)=true then _ else _)=_
    rw[hb];rfl
   rw[e2]
   refine ih ?_
   rcases h with h|h
   ·rcases List.mem_cons.mp h with q|q
    ·exact absurd (congrArg Prod.snd q).symm hk
    ·exact .inl q
   ·exact .inr h
theorem m9{env:Env}:∀(names:List (Str×NameKind))(x:Str),
  (names.map fun(n,k)=>if(k==NameKind.free&&env.scope.kind==.function&&env.kindOf n==some .cell) then(n,NameKind.cell) else(n,k)).lookup x =
   (names.lookup x).map fun k=>if(k==NameKind.free&&env.scope.kind==.function&&env.kindOf x==some .cell) then NameKind.cell else k
 |[],_=>rfl
 |(n,k)::r,x=>by
  have ih:=@m9 env r x
  show List.lookup x ((if(k==NameKind.free&&env.scope.kind==.function&&env.kindOf n==some .cell)=true then(n,NameKind.cell) else(n,k))::_)=_
  by_cases hx:x=n
  ·subst hx
   by_cases hc:(k==NameKind.free&&env.scope.kind==.function&&env.kindOf x==some .cell)=true
   ·rw[if_pos hc];simp only[List.lookup_cons,beq_self_eq_true,Option.map_some];rw[if_pos hc]
   ·rw[if_neg hc];simp only[List.lookup_cons,beq_self_eq_true,Option.map_some];rw[if_neg hc]
  ·have hb:(x==n)=false:=by simpa using hx
   by_cases hc:(k==NameKind.free&&env.scope.kind==.function&&env.kindOf n==some .cell)=true
   ·rw[if_pos hc];simp only[List.lookup_cons,hb];exact ih
   ·rw[if_neg hc];simp only[List.lookup_cons,hb];exact ih
def qF(scope outer:Scope)(N:List Str)(x:Str):Bool:=
 (scope.kind==.function)&&scope.names.all (fun y=>!(y.2==.cell))&&scope.names.all (fun y=>!(y.2==.local)||(y.1==x||y.1 == ".0")) &&
  scope.names.all (fun y=>!(y.2==.local)||scope.names.lookup y.1==some .local)&&(scope.names.lookup x==some .local) &&
  scope.names.all (fun y=>!(y.2==.free)||(outer.names.lookup y.1==some .cell||outer.names.lookup y.1==some .free)) &&
  !(N.contains ".0")&&(scope.names.lookup (x ++ "'")==none)&&decide (x::N.map fun y=>if y=x then x ++ "'" else y).Nodup
def wW(N:List Str)(x:Str):List Str:=x::N.map fun y=>if y=x then x ++ "'" else y
structure yh(scope outer:Scope)(N:List Str)(x:Str):Prop where
 kind:scope.kind=.function
 KY:∀ y∈scope.names,y.2≠.cell
 loc:∀ y∈scope.names,y.2=.local->y.1=x\/y.1 = ".0"
 names:∀ y∈scope.names,y.2=.local->scope.names.lookup y.1=some .local
 own:scope.names.lookup x=some .local
 free:∀ y∈scope.names,y.2=.free->outer.names.lookup y.1=some .cell\/outer.names.lookup y.1=some .free
 dot:(".0" : Str)∉N
 prime:scope.names.lookup (x ++ "'")=none
 nd:(wW N x).Nodup
theorem uI{scope outer:Scope}{N:List Str}{x:Str}(h:qF scope outer N x=true):yh scope outer N x:=by
 unfold qF at h
 simp only[Bool.and_eq_true,List.all_eq_true,Bool.or_eq_true,Bool.not_eq_true',beq_iff_eq,beq_eq_false_iff_ne,decide_eq_true_eq] at h
 obtain⟨⟨⟨⟨⟨⟨⟨⟨h1,h2⟩,h3⟩,h4⟩,h5⟩,h6⟩,h7⟩,h8⟩,h9⟩:=h
 refine⟨h1,h2,fun y hy e=>?_,fun y hy e=>?_,h5,fun y hy e=>?_,?_,h8,h9⟩
 ·rcases h3 y hy with z|z
  ·exact absurd e z
  ·exact z
 ·rcases h4 y hy with z|z
  ·exact absurd e z
  ·exact z
 ·rcases h6 y hy with z|z
  ·exact absurd e z
  ·exact z
 ·intro z
  have:N.contains ".0" = true:=List.contains_iff_mem.mpr z
  rw[this] at h7;cases h7
end L2
namespace L2
open PySem PySem.Spec PyProof.Rows
theorem yD{prog:Program}{w:World}{A:Around}{R:Result->Shared->Prop}{s:Shared}{elt target iter:Expr}{ifs:List Expr}{scope:Scope}{pos:Pos}{it acc:Value}{env:Env}(I:Nat->Shared->Prop)
  (turn:∀ n s,I n s->wpAny (model prog w) A (pyNext it) (fun r s₁=>match r with
   |none=>R (.ok .next) s₁
   |some v=>wpAny (model prog w) A (letOwnedTupleGo target it v) (fun _ s₁=>wpAny (model prog w) A (assign target env v) (fun _ s₂=>
     wpAny (model prog w) A (forIn ifs true fun c r=>if r=true then do let ok <- isTrue c env (eval c env);pure (ForInStep.yield ok) else pure (ForInStep.yield r)) (fun ok s₃=>
      if ok=true then wpAny (model prog w) A (eval elt env) (fun x s₄=>
       wpAny (model prog w) A (call (.builtin "list.append") [acc,x]) (fun _ s₅=>∃ m,m<n/\I m s₅) (fun _ _=>False) s₄) (fun _ _=>False) s₃
      else ∃ m,m<n/\I m s₃) (fun _ _=>False) s₂) (fun _ _=>False) s₁) (fun _ _=>False) s₁) (fun _ _=>False) s)
  (n:Nat) (h:I n s) :
  codeAny (model prog w) A (.compLoop (.ListComp elt [⟨target,iter,ifs,0⟩] scope pos) 0 it acc env) R s:=by
 refine codeAny_loop rfl I (fun n s hI=>?_) n h
 show wpAny _ A ((compTurn (.ListComp elt [⟨target,iter,ifs,0⟩] scope pos) 0 it acc env).onRaise (fun x=>do noteFrame x env;theTreesLotGoes x)) _ _ s
 refine wpAny_noted ?_
 rw[compTurn_list]
 refine wpAny_bind (wpAny_standAt (wpAny_bind (wpAny_mono (turn n s hI) (fun r s₁ h₁=>?_) fun _ _ h'=>h'.elim)))
 cases r with
 |none=>exact wpAny_pure h₁
 |some v=>
  refine wpAny_bind (wpAny_mono h₁ (fun _ s₁ h₁=>?_) fun _ _ h'=>h'.elim)
  refine wpAny_bind (wpAny_mono h₁ (fun _ s₂ h₂=>wpAny_bind (wpAny_mono h₂ (fun ok s₃ h₃=>?_) fun _ _ h'=>h'.elim)) fun _ _ h'=>h'.elim)
  cases ok with
  |false=>exact wpAny_pure ⟨rfl,h₃⟩
  |true=>
   exact wpAny_bind (wpAny_bind (wpAny_mono h₃ (fun x s₄ h₄=>wpAny_bind (wpAny_mono h₄ (fun _ s₅ h₅=>wpAny_pure (wpAny_pure ⟨rfl,h₅⟩)) fun _ _ h'=>h'.elim)) fun _ _ h'=>h'.elim))
section
variable{X:Cx}
def zG(X:Cx)(ifs:List Expr)(t:TT):Prop:=
 ∀(pins:List (Addr×Obj))(s:Shared)(σ:St)(H:Hp)(Q:Bool->Hp->Prop),Inv X pins σ H s->t σ H Q ->
  wpAny (model X.prog X.w) X.A (forIn ifs true fun c r=>if r=true then do let ok <- isTrue c X.env (eval c X.env);pure (ForInStep.yield ok) else pure (ForInStep.yield r)) (TP X pins σ Q) X.xe s
def Jp:TT:=fun _ H Q=>Q true H
theorem Qn:zG X [] Jp:=fun _ _ _ H _ I h=>wpAny_tests_nil ⟨H,I,h⟩
theorem Qo{c:Expr}{t:TT}(h:PT X c t):zG X [c] t:=fun pins s σ H Q I hw=>wpAny_tests_one (h pins s σ H Q I hw)
def gB(X:Cx)(x:Str)(scope:Scope)(s:Shared)(H:Hp)(ex:List Addr):Cx:=
 { X with
  N:=wW X.N x
  s₀:=s
  H₀:=H
  env:=compEnvC scope (cH scope.names X.env.cells []) s.heap.objs.size X.env
  outer:=X.stack
  stack:=X.stack
  ex:=ex
  fn:=fun _=>false
  pn:=[]
  xe:=fun _ _=>False }
def lD(J:It)(tc:TT)(te:TE)(σ:St)(fin:List V->Hp->Prop)(W:Nat->Nat->List V->Hp->Prop):Prop:=
 ∀ i m ys H,W i m ys H->ys.length<=sizeLine/\((J.stop i H/\fin ys H) \/
  (J.go i H/\∀ v H',J.yld i H v H'->tc (some v::σ) H' fun b H2=>if b=true then te (some v::σ) H2 fun y H3=>∃ m',m'<m/\W (i+1) m' (ys++[y]) H3 else ∃ m',m'<m/\W (i+1) m' ys H2))
theorem lookup_mem{α:Type}:∀ {l:List (Str×α)} {x:Str} {k:α},l.lookup x=some k->(x,k)∈l
 |[],_,_,h=>by simp at h
 |(n,k')::r,x,k,h=>by
  rw[List.lookup_cons] at h
  split at h
  ·rename_i hx
   have:x=n:=by simpa using hx
   subst this
   cases h
   exact List.mem_cons_self
  ·exact List.mem_cons_of_mem _ (lookup_mem h)
theorem Hu{N:List Str}{x y:Str}{i:Nat}(h:(wW N x)[i+1]?=some y):(N[i]?=some y/\y≠x)\/y=x ++ "'":=by
 unfold wW at h
 rw[List.getElem?_cons_succ,List.getElem?_map] at h
 cases e:N[i]? with
 |none=>rw[e] at h;cases h
 |some z=>
  rw[e] at h
  have h':(if z=x then x ++ "'" else z)=y:=by simpa using h
  by_cases hz:z=x
  ·rw[if_pos hz] at h';exact .inr h'.symm
  ·rw[if_neg hz] at h'
   subst h'
   exact .inl ⟨rfl,hz⟩
theorem CN{x:Str}{scope:Scope}{pins:List (Addr×Obj)}{σ:St}{H:Hp}{s:Shared}{h₁:Heap}{ex:List Addr}(ok:yh scope X.env.scope X.N x)(hc:X.calm=true)(I:Inv X pins σ H s)
  (hns:h₁.Ns s.heap.objs.size fun _=>none) (hk:∀ b o,s.heap.get? b=some o->h₁.get? b=some o)
  (hex:∀ b∈ex,b<s.heap.objs.size/\b≠X.env.locals/\b∉X.fs/\H b=none/\(b∈X.ex\/X.s₀.heap.objs.size<=b)/\(∀ y c,X.env.cells.lookup y=some c->c≠b)) {tk:Nat} :
  Inv (gB X x scope s H ex) [] (none::σ) H { s with heap:=h₁,toks:=tk }:=by
 have hfree:∀ y∈scope.names,y.2=.free->∃ c,X.env.cells.lookup y.1=some c:=fun y hy e=>I.ok.has y.1 (ok.free y hy e)
 have cl:∀ y c,(cH scope.names X.env.cells []).lookup y=some c->X.env.cells.lookup y=some c:=fun y c e=>jO scope.names hfree (fun _ _ z=>by simp at z) e
 have clt:∀ y c,X.env.cells.lookup y=some c->c<s.heap.objs.size:=fun y c e=>by
  obtain⟨v,q⟩:=I.cell y c e
  exact q.lt
 have Gg:∀ y,(compEnvC scope (cH scope.names X.env.cells []) s.heap.objs.size X.env).kindOf y=(scope.names.lookup y).map fun k=>if(k==NameKind.free&&X.env.scope.kind==.function&&X.env.kindOf y==some .cell) then NameKind.cell else k:=fun y=>m9 scope.names y
 have freeOf:∀ y,(∃ k,(compEnvC scope (cH scope.names X.env.cells []) s.heap.objs.size X.env).kindOf y=some k/\(k=.cell\/k=.free))->(y,NameKind.free)∈scope.names:=fun y ⟨k,e,hk⟩=>by
  rw[Gg] at e
  cases q:scope.names.lookup y with
  |none=>rw[q] at e;cases e
  |some k'=>
   have mem:=lookup_mem q
   by_cases hf:k'=.free
   ·subst hf;exact mem
   ·rw[q] at e
    have hb:(k'==NameKind.free)=false:=by simpa using hf
    simp only[Option.map_some,hb,Bool.false_and,Bool.false_eq_true,if_false,Option.some.injEq] at e
    subst e
    rcases hk with z|z
    ·exact absurd z (ok.KY _ mem)
    ·exact absurd z hf
 have R4:∀ b∈frs X.stack,b=X.env.locals\/b∈X.fs:=fun b hb=>List.mem_cons.mp (I.rM b hb)
 refine⟨⟨I.ok.mod,?_,I.ok.glob,I.ok.blt,Nat.le_refl _,fun y z c e1 e2=>?_,fun y hy=>?_,fun y c z _=>?_,fun _=>I.ok.hd hc,I.ok.frames,.inl rfl,fun b hb=>⟨?_,fun y c e=>?_⟩,fun b o e=>?_,?_,fun b o e hb=>?_,fun b hb hf=>?_,?_,fun b hb=>?_⟩,
  rfl,I.bare,Un.kept hk,⟨_,hns,fun i y v e1 e2 e3=>?_⟩,fun y c e=>?_,I.hok.fresh (Nat.le_refl _),fun y c e=>I.iC y c (cl y c e),fun p hp=>?_,I.hok.kept hk,?_⟩
 ·exact ok.kind
 ·exact I.ok.inj y z c (cl y c e1) (cl z c e2)
 ·have hm:(y,NameKind.free)∈scope.names:=by
   rcases hy with z|z
   ·exact freeOf y ⟨_,z,.inl rfl⟩
   ·exact freeOf y ⟨_,z,.inr rfl⟩
  exact wV scope.names (.inl hm)
 ·exact absurd (show false=true from z) (by decide)
 ·exact Nat.ne_of_lt (hex b hb).1
 ·exact(hex b hb).2.2.2.2.2 y c (cl y c e)
 ·obtain⟨e1,e2⟩:=I.bs b o e
  exact⟨e1,e2⟩
 ·exact Nat.le_trans I.ok.bsz I.sz
 ·rcases(hex b hb).2.2.2.2.1 with z|z
  ·exact I.ok.Im b o e z
  ·exact absurd (Nat.lt_of_lt_of_le (Heap.lt_size (I.ok.bs b o e).1) z) (Nat.lt_irrefl _)
 ·rcases R4 b hf with z|z
  ·exact(hex b hb).2.1 z
  ·exact(hex b hb).2.2.1 z
 ·exact I.stack
 ·exact I.ug b hb
 ·cases i with
  |zero=>
   have:(none::σ)[0]?=some (some v):=e2
   simp at this
  |succ i=>
   have e2':σ[i]?=some (some v):=by simpa using e2
   have vis:Vis (relabel scope X.env) y:=e3
   rcases Hu e1 with⟨eN,hyx⟩|hp
   ·
    have kf:(y,NameKind.free)∈scope.names:=by
     have k3:∃ k,(compEnvC scope (cH scope.names X.env.cells []) s.heap.objs.size X.env).kindOf y=some k/\(k=.local\/k=.cell\/k=.free):=by
      rcases vis with z|z|z
      ·exact⟨_,z,.inl rfl⟩
      ·exact⟨_,z,.inr (.inl rfl)⟩
      ·exact⟨_,z,.inr (.inr rfl)⟩
     obtain⟨k,e,hk3⟩:=k3
     rcases hk3 with hl|hk3
     ·subst hl
      have e':=e
      rw[Gg] at e'
      cases q:scope.names.lookup y with
      |none=>rw[q] at e';cases e'
      |some k'=>
       have mem:=lookup_mem q
       rw[q] at e'
       have hk':k'=.local:=by
        by_cases Kh:(k'==NameKind.free&&X.env.scope.kind==.function&&X.env.kindOf y==some .cell)=true
        ·simp only[Option.map_some,Kh,if_true,Option.some.injEq] at e'
         cases e'
        ·simp only[Option.map_some,Kh,Bool.false_eq_true,if_false,Option.some.injEq] at e'
         exact e'
       subst hk'
       rcases ok.loc _ mem rfl with z|z
       ·exact absurd z hyx
       ·have:y = ".0":=z
        subst this
        exact absurd (List.mem_of_getElem? eN) ok.dot
     ·exact freeOf y ⟨k,e,hk3⟩
    have hout:=ok.free _ kf rfl
    have YB:Vis X.env.scope y:=by
     rcases hout with z|z
     ·exact .inr (.inl z)
     ·exact .inr (.inr z)
    obtain⟨m,hn,hl⟩:=I.loc
    obtain⟨u,ru,lk⟩:=hl i y v eN e2' YB
    refine⟨u,ru,?_⟩
    rcases lk with⟨lk,_⟩|⟨_,c,ec,hcell⟩
    ·have lk':X.env.scope.names.lookup y=some .local:=lk
     rcases hout with z|z<;>(have z':X.env.scope.names.lookup y=_:=z;rw[lk'] at z';cases z')
    ·obtain⟨c',ec'⟩:=wV (cells:=X.env.cells) (acc:=[]) scope.names (.inl kf)
     have:c'=c:=by
      have:=cl y c' ec'
      rw[ec] at this;cases this;rfl
     subst this
     have kk:(compEnvC scope (cH scope.names X.env.cells []) s.heap.objs.size X.env).kindOf y=some .cell\/(compEnvC scope (cH scope.names X.env.cells []) s.heap.objs.size X.env).kindOf y=some .free:=by
      rcases vis with z|z|z
      ·
       have z':(compEnvC scope (cH scope.names X.env.cells []) s.heap.objs.size X.env).kindOf y=some .local:=z
       rw[Gg] at z'
       cases q:scope.names.lookup y with
       |none=>rw[q] at z';cases z'
       |some k'=>
        have mem:=lookup_mem q
        rw[q] at z'
        have hk':k'=.local:=by
         by_cases Kh:(k'==NameKind.free&&X.env.scope.kind==.function&&X.env.kindOf y==some .cell)=true
         ·simp only[Option.map_some,Kh,if_true,Option.some.injEq] at z'
          cases z'
         ·simp only[Option.map_some,Kh,Bool.false_eq_true,if_false,Option.some.injEq] at z'
          exact z'
        subst hk'
        rcases ok.loc _ mem rfl with zz|zz
        ·exact absurd zz hyx
        ·have:y = ".0":=zz
         subst this
         exact absurd (List.mem_of_getElem? eN) ok.dot
      ·exact .inl z
      ·exact .inr z
     refine .inr ⟨kk,c',ec',?_⟩
     obtain⟨oc,hoc,hd⟩:=hcell
     exact⟨oc,hk _ _ hoc,hd⟩
   ·subst hp
    exfalso
    have kn:(compEnvC scope (cH scope.names X.env.cells []) s.heap.objs.size X.env).kindOf (x ++ "'")=none:=by rw[Gg,ok.prime];rfl
    rcases vis with z|z|z
    ·have z':(compEnvC scope (cH scope.names X.env.cells []) s.heap.objs.size X.env).kindOf (x ++ "'")=some .local:=z
     rw[kn] at z';cases z'
    ·have z':(compEnvC scope (cH scope.names X.env.cells []) s.heap.objs.size X.env).kindOf (x ++ "'")=some .cell:=z
     rw[kn] at z';cases z'
    ·have z':(compEnvC scope (cH scope.names X.env.cells []) s.heap.objs.size X.env).kindOf (x ++ "'")=some .free:=z
     rw[kn] at z';cases z'
 ·obtain⟨v,oc,hoc,hd⟩:=I.cell y c (cl y c e)
  exact⟨v,oc,hk _ _ hoc,hd⟩
 ·exact absurd (show p∈([]:List (Addr×Obj)) from hp) (by simp)
 ·show(none::σ).length=(wW X.N x).length
  unfold wW
  rw[List.length_cons,List.length_cons,List.length_map,I.len]
end
end L2
namespace L2
open PySem PySem.Spec PyProof.Rows
section
variable{X:Cx}
theorem Heap.SameBut.keeps{a:Addr}{h h':Heap}(k:Heap.SameBut a h h'){b:Addr}{o:Obj}(hb:b≠a)(e:h.get? b=some o):h'.get? b=some o:=(k.2 b hb).trans e
theorem Hv{x:Str}{px pos:Pos}{scope:Scope}{elt iter:Expr}{ifs:List Expr}{tc:TT}{te:TE}{pins:List (Addr×Obj)}{σ:St}{H₂:Hp}{s₃:Shared}{h₁:Heap}{tk:Nat}{it D:Addr}{fp:List Addr}{tn:Nat->Heap->Prop}{J:It}{fin:List V->Hp->Prop}
  {W:Nat->Nat->List V->Hp->Prop} {RR:Value->Addr->Result->Shared->Prop}
  (ok:yh scope X.env.scope X.N x) (hc:X.calm=true) (hif:∀ s H ex,zG (gB X x scope s H ex) ifs tc) (he:∀ s H ex,PE (gB X x scope s H ex) elt te)
  (I3:Inv X pins σ H₂ s₃) (T:Turn X.prog X.w X.K (.Name x px) J fp it tn) (st:tn 0 s₃.heap) (f2:∀ b∈fp,nP X pins H₂ b) (w0:∃ m,W 0 m [] H₂) (hW:lD J tc te σ fin W)
  (tR:H₂ D=none) (fD:nP X pins H₂ D) (h0D:X.s₀.heap.objs.size<=D) (FW:s₃.heap.get? D=some { cls:=.type "list",dict:=none,data:=.seq ([]:List Value).toArray }) (Dfp:D∉fp)
  (hns₁:h₁.Ns s₃.heap.objs.size fun _=>none) (qP:∀ b o,s₃.heap.get? b=some o->h₁.get? b=some o)
  (hRR:∀ D C ys H' s',H' D=none->fin ys H'->Inv X pins σ (upd H' D (.lst ys)) s'->nP X pins (upd H' D (.lst ys)) C->(∃ m,s'.heap.Ns C m)->RR (.ref D) C (.ok .next) s') :
  codeAny (model X.prog X.w) X.A (.compLoop (.ListComp elt [⟨.Name x px,iter,ifs,0⟩] scope pos) 0 (.ref it) (.ref D) (compEnvC scope (cH scope.names X.env.cells []) s₃.heap.objs.size X.env)) (RR (.ref D) s₃.heap.objs.size) { s₃ with heap:=h₁,toks:=tk }:=by
 have W4:∀ b∈fp,∃ o,s₃.heap.get? b=some o/\∀ v,o.data≠.cell v:=T.obj 0 s₃.heap st
 have hex:∀ b∈D::fp,b<s₃.heap.objs.size/\b≠X.env.locals/\b∉X.fs/\H₂ b=none/\(b∈X.ex\/X.s₀.heap.objs.size<=b)/\(∀ y c,X.env.cells.lookup y=some c->c≠b):=fun b hb=>by
  rcases List.mem_cons.mp hb with e|hb
  ·subst e
   obtain⟨g0,g1,g2,g3,g4,g5⟩:=fD
   exact⟨Heap.lt_size FW,g1,g2,g0,g3,g4⟩
  ·obtain⟨g0,g1,g2,g3,g4,g5⟩:=f2 b hb
   obtain⟨o,eo,_⟩:=W4 b hb
   exact⟨Heap.lt_size eo,g1,g2,g0,g3,g4⟩
 have I4:=CN (ex:=D::fp) (tk:=tk) ok hc I3 hns₁ qP hex
 generalize hY:gB X x scope s₃ H₂ (D::fp)=Y at I4
 have zJ:Y.prog=X.prog:=by rw[<- hY];rfl
 have Yw:Y.w=X.w:=by rw[<- hY];rfl
 have YK:Y.K=X.K:=by rw[<- hY];rfl
 have YA:Y.A=X.A:=by rw[<- hY];rfl
 have Yc:Y.calm=true:=by rw[<- hY];exact hc
 have YN:Y.N.Nodup:=by rw[<- hY];exact ok.nd
 have Y0:Y.N[0]?=some x:=by rw[<- hY];rfl
 have Cj:Y.env=compEnvC scope (cH scope.names X.env.cells []) s₃.heap.objs.size X.env:=by rw[<- hY];rfl
 have Yx:Y.env.scope.names.lookup x=some .local:=by rw[Cj];exact lookup_relabel_local ok.own
 have Yfs:Y.fs=frs X.stack:=by rw[<- hY];rfl
 have Yex:Y.ex=D::fp:=by rw[<- hY];rfl
 have Ys0:Y.s₀=s₃:=by rw[<- hY];rfl
 have YH0:Y.H₀=H₂:=by rw[<- hY];rfl
 have Ypn:Y.pn=[]:=by rw[<- hY];rfl
 have Yxe:Y.xe=fun _ _=>False:=by rw[<- hY];rfl
 have XR:zG Y ifs tc:=by rw[<- hY];exact hif _ _ _
 have he':PE Y elt te:=by rw[<- hY];exact he _ _ _
 have Dne:D≠Y.env.locals:=by rw[Cj];exact Nat.ne_of_lt (Heap.lt_size FW)
 have Dfs:D∉Y.fs:=by
  rw[Yfs];intro hb
  rcases List.mem_cons.mp (I3.rM D hb) with z|z
  ·exact fD.2.1 z
  ·exact fD.2.2.1 z
 have Vx:∀ y c,Y.env.cells.lookup y=some c->c≠D:=fun y c e=>by
  have hfree:∀ y∈scope.names,y.2=.free->∃ c,X.env.cells.lookup y.1=some c:=fun y hy e=>I3.ok.has y.1 (ok.free y hy e)
  rw[Cj] at e
  exact fD.2.2.2.2.1 y c (jO scope.names hfree (fun _ _ z=>by simp at z) e)
 have fpY:∀ {H':Hp} {pl:List (Addr×Obj)},(∀ b∈fp,H' b=none)->(∀ p∈pl,p.1∉fp)->∀ b∈fp,nP Y pl H' b:=fun {H' pl} hn hp b hb=>by
  obtain⟨g0,g1,g2,g3,g4,g5⟩:=f2 b hb
  have hlt:=(hex b (List.mem_cons_of_mem _ hb)).1
  refine⟨hn b hb,?_,?_,.inl (by rw[Yex];exact List.mem_cons_of_mem _ hb),fun y c e=>?_,fun p q z=>?_⟩
  ·rw[Cj];exact Nat.ne_of_lt hlt
  ·rw[Yfs];intro z
   rcases List.mem_cons.mp (I3.rM b z) with z|z
   ·exact g1 z
   ·exact g2 z
  ·have hfree:∀ y∈scope.names,y.2=.free->∃ c,X.env.cells.lookup y.1=some c:=fun y hy e=>I3.ok.has y.1 (ok.free y hy e)
   rw[Cj] at e
   exact g4 y c (jO scope.names hfree (fun _ _ z=>by simp at z) e)
  ·rw[Ypn,List.nil_append] at q
   exact hp p q (by rw[z];exact hb)
 have DY:∀ {H':Hp},H' D=none->nP Y [] H' D:=fun {H'} hn=>⟨hn,Dne,Dfs,.inl (by rw[Yex];exact List.mem_cons_self),Vx,fun p q=>absurd (show p∈([]:List (Addr×Obj)) by rw[Ypn] at q;exact q) (by simp)⟩
 have Ws:∀ {σ':St} {H':Hp} {s':Shared} {its:Array Value} {n:Nat},Inv Y [] σ' H' s'->H' D=none->s'.heap.get? D=some { cls:=.type "list",data:=.seq its n }->Inv Y [(D,{ cls:=.type "list",data:=.seq its n })] σ' H' s':=fun {σ' H' s' its n} J' hn e=>by
  refine J'.pK fun p hp=>?_
  have:p=(D,{ cls:=.type "list",data:=.seq its n }):=by simpa using hp
  subst this
  exact⟨e,hn,Dne,Dfs,fun v z=>by
   have z':Data.seq its n=Data.cell v:=z
   cases z'⟩
 rw[<- Cj]
 obtain⟨m0,w0⟩:=w0
 refine yD (fun m s'=>∃ i ys σ0 H' its n,Inv Y [(D,{ cls:=.type "list",data:=.seq its n })] (σ0::σ) H' s'/\tn i s'.heap/\(∀ b∈fp,H' b=none)/\Vals ys its.toList/\W i m ys H') ?_ m0
  ⟨0,[],none,H₂,_,_,Ws I4 tR (qP D _ FW),T.keep 0 _ _ st (fun b _ o e=>qP b o e),fun b hb=>(f2 b hb).1,.nil,w0⟩
 rintro m s' ⟨i,ys,σ0,H',its,n,J',st',fr',rv,w'⟩
 obtain⟨hle,hW'⟩:=hW i m ys H' w'
 have hDn:H' D=none:=(J'.pin (D,{ cls:=.type "list",data:=.seq its n }) (by simp)).2.1
 have fpn:∀ p∈[((D,{ cls:=.type "list",data:=.seq its n }):Addr×Obj)],p.1∉fp:=fun p hp=>by
  have:p=(D,{ cls:=.type "list",data:=.seq its n }):=by simpa using hp
  subst this;exact Dfp
 rcases hW' with⟨stop,hf⟩|⟨go,step⟩
 ·
  have h9:=T.done Y zJ Yw YK Yc i _ s' (σ0::σ) H' (fun _ _=>False) J' (fpY fr' fpn) st' stop
  rw[YA] at h9
  refine thn h9 fun r s5 ⟨hr,J5⟩=>?_
  subst hr
  show RR (.ref D) s₃.heap.objs.size (.ok .next) s5
  have eD:=(J5.pin (D,{ cls:=.type "list",data:=.seq its n }) (by simp)).1
  have un:Un (frs X.stack) (D::fp) H₂ H' s₃.heap s5.heap:=by
   have:=J5.base
   rw[Yfs,Yex,YH0,Ys0] at this
   exact this
  have Y4:HOk X.prog X.w H' s5.heap:=by
   have:=J5.hok
   rw[zJ,Yw] at this
   exact this
  have os5:s5.os=s₃.os:=by have:=J5.os;rw[Ys0] at this;exact this
  have I5:Inv X pins σ H' s5:=I3.call' os5 un Y4 J5.bare fun b hb=>by
   rcases List.mem_cons.mp hb with e|hb
   ·subst e;exact⟨fD.2.2.2.1,fD.2.1,fD.2.2.2.2.1,fD.2.2.2.2.2⟩
   ·obtain⟨g0,g1,g2,g3,g4,g5⟩:=f2 b hb
    exact⟨g3,g1,g4,g5⟩
  have I6:Inv X pins σ (upd H' D (.lst ys)) s5:=I5.track hDn h0D fD.2.1 fD.2.2.2.2.1 fD.2.2.2.2.2 ⟨hle,its.toList,n,rv,by simpa using eD⟩
  obtain⟨mC,hnC,_⟩:=J5.loc
  have eL:Y.env.locals=s₃.heap.objs.size:=by rw[Cj];rfl
  have hCn:H' s₃.heap.objs.size=none:=by have:=J5.free;rw[eL] at this;exact this
  refine hRR D s₃.heap.objs.size ys H' s5 hDn hf I6 ?_ ⟨mC,by rw[<- eL];exact hnC⟩
  exact I3.Af (Nat.le_refl _) (by rw[aO (Nat.ne_of_gt (Heap.lt_size FW))];exact hCn)
 ·
  have h9:=T.item Y zJ Yw YK Yc i _ s' (σ0::σ) H' (fun _ _=>False) J' (fpY fr' fpn) st' go
  rw[YA] at h9
  refine thn h9 fun r s5 ⟨u,hr,h5⟩=>?_
  subst hr
  refine thn h5 fun _ s6 ⟨v,H6,J6,rv6,y6,st6,fr6⟩=>?_
  have YJ:H6 D=none:=(J6.pin (D,{ cls:=.type "list",data:=.seq its n }) (by simp)).2.1
  have J6':=J6.pinned (fp:=fp) (fpY fr6 fpn) (T.obj _ _ st6)
  have hst:=step v H6 y6
  refine wpAny_assign_Name ?_
  have Y6:∀ Q',(∀ s7,Inv Y ([(D,{ cls:=.type "list",data:=.seq its n })]++oM fp s6.heap) (some v::σ) H6 s7->Q' () s7)->wpAny (model X.prog X.w) X.A (storeName Y.env x u) Q' (fun _ _=>False) s6:=fun Q' hQ'=>
   jE (i:=0) (σ:=σ0::σ) J6' YN Y0 (.inl Yx) rv6 (fun s7 J7=>hQ' s7 J7) (.inr Yx)
  refine Y6 _ fun s7 J7=>?_
  have h10:=XR _ s7 (some v::σ) H6 _ J7 hst
  rw[zJ,Yw,YA,Yxe] at h10
  refine thn h10 fun b s8 ⟨H8,J8,q8⟩=>?_
  have again:∀ {s9:Shared} {H9:Hp} {ys':List V} {its':Array Value} {n':Nat},Inv Y [] (some v::σ) H9 s9->(∀ b∈fp,H9 b=none/\∀ o,s6.heap.get? b=some o->s9.heap.get? b=some o)->H9 D=none ->
    s9.heap.get? D=some { cls:=.type "list",data:=.seq its' n' }->Vals ys' its'.toList->(∃ m',m'<m/\W (i+1) m' ys' H9) ->
    ∃ m',m'<m/\∃ i ys σ0 H' its n,Inv Y [(D,{ cls:=.type "list",data:=.seq its n })] (σ0::σ) H' s9/\tn i s9.heap/\(∀ b∈fp,H' b=none)/\Vals ys its.toList/\W i m' ys H':=fun {s9 H9 ys' its' n'} J9 W3 hD9 eD9 rv9 hw9=>by
   obtain⟨m',hm,w9⟩:=hw9
   exact⟨m',hm,i+1,ys',some v,H9,its',n',Ws J9 hD9 eD9,T.keep _ _ _ st6 (fun b hb o e=>(W3 b hb).2 o e),fun b hb=>(W3 b hb).1,rv9,w9⟩
  have Wt:∀ {σ9:St} {H9:Hp} {s9:Shared},Inv Y ([(D,{ cls:=.type "list",data:=.seq its n })]++oM fp s6.heap) σ9 H9 s9->∀ b∈fp,H9 b=none/\∀ o,s6.heap.get? b=some o->s9.heap.get? b=some o:=fun {σ9 H9 s9} J9 b hb=>by
   obtain⟨o,eo,_⟩:=T.obj _ _ st6 b hb
   have p:=J9.pin (b,o) (List.mem_append_right _ (List.mem_append_right _ (oJ hb eo)))
   exact⟨p.2.1,fun o' e'=>by rw[eo] at e';cases e';exact p.1⟩
  have Wu:∀ {σ9:St} {H9:Hp} {s9:Shared},Inv Y ([(D,{ cls:=.type "list",data:=.seq its n })]++oM fp s6.heap) σ9 H9 s9->s9.heap.get? D=some { cls:=.type "list",data:=.seq its n }/\H9 D=none:=fun {σ9 H9 s9} J9=>by
   have p:=J9.pin (D,{ cls:=.type "list",data:=.seq its n }) (List.mem_append_right _ (List.mem_append_left _ (by simp)))
   exact⟨p.1,p.2.1⟩
  cases b with
  |false=>
   show ∃ m',m'<m/\_
   have q8':∃ m',m'<m/\W (i+1) m' ys H8:=q8
   obtain⟨eD8,hD8⟩:=Wu J8
   exact again (J8.pK fun p hp=>absurd hp (by simp)) (Wt J8) hD8 eD8 rv q8'
  |true=>
   show wpAny _ _ _ _ _ _
   have q8':te (some v::σ) H8 fun y H3=>∃ m',m'<m/\W (i+1) m' (ys++[y]) H3:=q8
   have h11:=he' _ s8 (some v::σ) H8 _ J8 q8'
   rw[zJ,Yw,YA,Yxe] at h11
   refine thn h11 fun yv s9 ⟨y,H9,J9,ry,q9⟩=>?_
   obtain⟨eD9,hD9⟩:=Wu J9
   have hz:its.size<=sizeLine:=by have:=rv.length;simp only[Array.length_toList] at this;lia
   refine wpAny_list_append_plain (hsz:=hz) ⟨n,eD9⟩ fun h' hl' hsb'=>?_
   obtain⟨n',eD'⟩:=hl'
   have J9':Inv Y [] (some v::σ) H9 s9:=J9.pK fun p hp=>absurd hp (by simp)
   obtain⟨g0,g1,g2,g3,g4,g5⟩:=DY hD9
   have J10:Inv Y [] (some v::σ) H9 { s9 with heap:=h' }:=J9'.turned (t':=s9.toks) (fun b o hb e=>Heap.SameBut.keeps hsb' hb e) g0 g1 g3 g4 g5
   refine again J10 (fun b hb=>?_) hD9 eD' (by simpa using rv.append (Vals.VB ry)) q9
   have p9:=Wt J9 b hb
   exact⟨p9.1,fun o e=>Heap.SameBut.keeps hsb' (fun z=>Dfp (z▸hb)) (p9.2 o e)⟩
theorem wX{x:Str}{px pos:Pos}{scope:Scope}{elt iter:Expr}{ifs:List Expr}{tc:TT}{te:TE}{pins:List (Addr×Obj)}{σ:St}{H₂:Hp}{s₂:Shared}{it:Addr}{fp:List Addr}{tn:Nat->Heap->Prop}{J:It}{fin:List V->Hp->Prop}
  {W:Nat->Nat->List V->Hp->Prop} {RR:Value->Addr->Result->Shared->Prop} {E:Value->Shared->Prop}
  (ok:yh scope X.env.scope X.N x) (hc:X.calm=true) (hif:∀ s H ex,zG (gB X x scope s H ex) ifs tc) (he:∀ s H ex,PE (gB X x scope s H ex) elt te)
  (I2:Inv X pins σ H₂ s₂) (T:Turn X.prog X.w X.K (.Name x px) J fp it tn) (st:tn 0 s₂.heap) (f2:∀ b∈fp,nP X pins H₂ b) (w0:∃ m,W 0 m [] H₂) (hW:lD J tc te σ fin W)
  (hRR:∀ D C ys H' s',H' D=none->fin ys H'->Inv X pins σ (upd H' D (.lst ys)) s'->nP X pins (upd H' D (.lst ys)) C->(∃ m,s'.heap.Ns C m)->RR (.ref D) C (.ok .next) s') :
  wpAny (model X.prog X.w) X.A (newList []) (fun acc s₃=>wpAny (model X.prog X.w) X.A (newFunctionEnv scope X.env.globals (cH scope.names X.env.cells []) [] X.env.qual none .none (some X.env)) (fun cenv s₄=>
   codeAny (model X.prog X.w) X.A (.compStart (.ListComp elt [⟨.Name x px,iter,ifs,0⟩] scope pos) 0 (.ref it) acc { cenv with scope:=relabel scope X.env }) (RR acc cenv.locals) s₄) E s₃) E s₂:=by
 refine wpAny_newObj_type (wpAny_newFunctionEnv ok.KY (by intro y hy;simp at hy) (fun h₁ hns₁ hsb₁=>?_) ok.kind)
 have I3:Inv X pins σ H₂ { s₂ with heap:=s₂.heap.push { cls:=.type "list",dict:=none,data:=.seq ([]:List Value).toArray } }:=I2.kept (t':=s₂.toks) fun b o e=>Heap.get?_push_of_some _ e
 have qP:∀ b o,(s₂.heap.push { cls:=.type "list",dict:=none,data:=.seq ([]:List Value).toArray }).get? b=some o->h₁.get? b=some o:=fun b o e=>Heap.SameBut.keeps hsb₁ (Nat.ne_of_lt (Heap.lt_size e)) (Heap.get?_push_of_some _ e)
 have Ks:∀ b o,s₂.heap.get? b=some o->(s₂.heap.push { cls:=.type "list",dict:=none,data:=.seq ([]:List Value).toArray }).get? b=some o:=fun b o e=>Heap.get?_push_of_some _ e
 have tR:H₂ s₂.heap.objs.size=none:=I2.hok.fresh (Nat.le_refl _)
 have loop:=Hv (RR:=RR) (s₃:={ s₂ with heap:=s₂.heap.push { cls:=.type "list",dict:=none,data:=.seq ([]:List Value).toArray } }) (h₁:=h₁) (tk:=s₂.toks+([]:List (Str×Value)).length) (iter:=iter) (pos:=pos)
  ok hc hif he I3 T (T.keep 0 _ _ st fun b _ o e=>Ks b o e) f2 w0 hW tR (I2.Af (Nat.le_refl _) tR) I2.sz (Heap.get?_push_size _ rfl) (fun hb=>by
   obtain⟨o,e,_⟩:=T.obj 0 _ st _ hb
   exact Nat.lt_irrefl _ (Heap.lt_size e)) (by simpa using hns₁) qP hRR
 exact codeAny_compStart_list loop (T.self _ 0 _ _ _ (T.keep 0 _ _ st fun b _ o e=>qP b o (Ks b o e)) loop)
def RM(wi:TI)(tc:TT)(te:TE):TE:=fun σ H Q=>wi σ H fun J H1=>∃ W:Nat->Nat->List V->Hp->Prop,(∃ m,W 0 m [] H1)/\lD J tc te σ (fun ys H2=>∀ p,H2 p=none->Q (.ref p) (upd H2 p (.lst ys))) W
theorem Qd{x:Str}{px pos:Pos}{scope:Scope}{elt iter:Expr}{ifs:List Expr}{wi:TI}{tc:TT}{te:TE}(ok:qF scope X.env.scope X.N x=true)(hc:X.calm=true)(hi:PI X (.Name x px) iter wi)
  (hif:∀ s H ex,zG (gB X x scope s H ex) ifs tc) (he:∀ s H ex,PE (gB X x scope s H ex) elt te) (hs:∀ v,foldedSetIterable iter X.env v=pure v:=by intro _;rfl) :
  PE X (.ListComp elt [⟨.Name x px,iter,ifs,0⟩] scope pos) (RM wi tc te):=by
 intro pins s σ H Q I h
 have ok':=uI ok
 have hfree:∀ y∈scope.names,y.2=.free->∃ c,X.env.cells.lookup y.1=some c:=fun y hy e=>I.ok.has y.1 (ok'.free y hy e)
 rw[eval_ListComp]
 refine wpAny_comprehension_free (use:=none) rfl hs (uH hfree) ok'.kind ok'.names (thn (hi pins s σ H _ I h) fun v s1 h1=>thn h1 fun itv s2 h2=>?_)
 obtain⟨it,fp,tn,J,H2,e,I2,T,st2,f2,W,w0,hW⟩:=h2
 subst e
 refine wX (RR:=fun acc C=>compPost (model X.prog X.w) X.A X.xe none (EP X pins σ Q) acc C) ok' hc hif he I2 T st2 f2 w0 hW fun D C ys H' s' hD fin I' fC hm=>?_
 obtain⟨m,hm⟩:=hm
 refine⟨m,hm,fun h' hsb=>?_⟩
 obtain⟨g0,g1,g2,g3,g4,g5⟩:=fC
 exact⟨.ref D,_,I'.turned (t':=s'.toks) (fun b o hb e=>Heap.SameBut.keeps hsb hb e) g0 g1 g3 g4 g5,rfl,fin D hD⟩
def Nu(i:Nat)(wi:TI)(tc:TT)(te:TE):TS:=fun D σ H=>wi σ H fun J H1=>∃ W:Nat->Nat->List V->Hp->Prop,(∃ m,W 0 m [] H1)/\lD J tc te σ (fun ys H2=>∀ p,H2 p=none->D.nx (σ.set i (some (.ref p))) (upd H2 p (.lst ys))) W
theorem Qt{i:Nat}{y x:Str}{py px pos spos:Pos}{scope:Scope}{elt iter:Expr}{ifs:List Expr}{wi:TI}{tc:TT}{te:TE}(hN:X.N.Nodup)(hiy:X.N[i]?=some y)(hy:X.env.scope.names.lookup y=some .local)
  (ok:qF scope X.env.scope X.N x=true) (hc:X.calm=true) (hi:PI X (.Name x px) iter wi)
  (hif:∀ s H ex,zG (gB X x scope s H ex) ifs tc) (he:∀ s H ex,PE (gB X x scope s H ex) elt te)
  (hsw:swapsWith (.ListComp elt [⟨.Name x px,iter,ifs,0⟩] scope pos) (some (.Name y py)) spos.line X.env=pure true:=by rfl) (hs:∀ v,foldedSetIterable iter X.env v=pure v:=by intro _;rfl) :
  PS X (.Assign [.Name y py] (.ListComp elt [⟨.Name x px,iter,ifs,0⟩] scope pos) spos) (Nu i wi tc te):=by
 intro pins s σ H Dn I h
 have ok':=uI ok
 have hfree:∀ y∈scope.names,y.2=.free->∃ c,X.env.cells.lookup y.1=some c:=fun y hy e=>I.ok.has y.1 (ok'.free y hy e)
 rw[exec_Assign_Name_used _ _ _ _ hsw]
 refine wpAny_bind (wpAny_standAt (wpAny_bind ?_))
 show wpAny _ X.A (do let _ <- comprehension (.ListComp elt [⟨.Name x px,iter,ifs,0⟩] scope pos) scope X.env _ (newList []) false (eval iter X.env) (some (assign (.Name y py) X.env))) _ _ s
 refine wpAny_bind (wpAny_mono (wpAny_comprehension_free (use:=some (assign (.Name y py) X.env)) (Q:=fun _ s'=>SP X pins Dn .next s') rfl hs (uH hfree) ok'.kind ok'.names
  (thn (hi pins s σ H _ I h) fun v s1 h1=>thn h1 fun itv s2 h2=>?_)) (fun _ s' hq=>wpAny_pure (wpAny_pure hq)) fun _ _ e=>e)
 obtain⟨it,fp,tn,J,H2,e,I2,T,st2,f2,W,w0,hW⟩:=h2
 subst e
 refine wX (RR:=fun acc C=>compPost (model X.prog X.w) X.A X.xe (some (assign (.Name y py) X.env)) (fun _ s'=>SP X pins Dn .next s') acc C) ok' hc hif he I2 T st2 f2 w0 hW fun D C ys H' s' hD fin I' fC hm=>?_
 obtain⟨m,hm⟩:=hm
 show wpAny _ X.A (assign (.Name y py) X.env (.ref D)) _ _ _
 obtain⟨g0,g1,g2,g3,g4,g5⟩:=fC
 refine wpAny_assign_Name (yc (i:=i) (v:=.ref D) I' hN hiy (.inl hy) rfl (fun s'' I'' hch=>?_) (.inr hy))
 obtain⟨a,hsb,ha⟩:=hch
 have hCa:C≠a:=by
  rcases ha with z|z
  ·rw[z];exact g1
  ·exact fun z'=>g4 _ _ z z'.symm
 refine⟨m,hm.sameBut hsb hCa,fun h' hsb'=>?_⟩
 exact⟨_,_,I''.turned (t':=s''.toks) (fun b o hb e=>Heap.SameBut.keeps hsb' hb e) g0 g1 g3 g4 g5,fin D hD⟩
end
end L2
namespace L2
open PySem PySem.Spec PyProof.Rows
theorem cM.there{P:Program}{w:World}{H:Hp}{h:Heap}{a:Addr}{o:HO}(x:cM P w H h a o):∃ ob,h.get? a=some ob:=by
 cases o with
 |lst xs=>obtain⟨_,_,_,_,e⟩:=x;exact⟨_,e⟩
 |tup xs=>obtain⟨_,_,_,ob,e,_⟩:=x;exact⟨_,e⟩
 |dK kvs=>obtain⟨_,_,_,_,o,_,_,e,_⟩:=x;exact⟨_,e⟩
 |dT kvs=>obtain⟨_,_,_,_,o,_,_,e,_⟩:=x;exact⟨_,e⟩
 |set S n=>obtain⟨o,_,_,_,e,_⟩:=x;exact⟨_,e⟩
 |ins C dx fs=>obtain⟨_,_,_,e,_⟩:=x;exact⟨_,e⟩
 |own y=>obtain⟨_,e⟩:=x;exact⟨_,e⟩
 |xd fs=>obtain⟨_,⟨_,_,_,e,_⟩,_⟩:=x;exact⟨_,e⟩
 |rng lo hi=>obtain⟨_,_,_,e⟩:=x;exact⟨_,e⟩
 |frz ob u=>obtain⟨e,_⟩:=x;exact⟨_,e⟩
 |tbl ps=>exact⟨_,show h.get? a=some _ from x⟩
 |met f y=>exact⟨_,show h.get? a=some _ from x⟩
 |ext φ=>obtain⟨_,e,_⟩:=x;exact e
structure Fly(outer:List Env)(H':Hp)(h0:Heap)(ea C:Addr)(h:Heap):Prop where
 free:H' ea=none
 new:h0.get? ea=none
 fl:∃(B:Heap)(t:Addr),Heap.FlyingW B outer ea (.ref C) (.ref t) h/\∀ b o,h.get? b=some o->(H' b≠none\/∃ o',h0.get? b=some o')->b∉frs outer->B.get? b=some o
def CXE(P:Program)(w:World):CXT:=fun outer H s E e s'=>∃ ea C H',e=.ref ea/\s'.os=s.os/\AllBare s'.gens/\Un (frs outer) [] H H' s.heap s'.heap/\HOk P w H' s'.heap/\Fly outer H' s.heap ea C s'.heap/\E (.ref C) none H'
section
variable{P:Program}{w:World}{K:PySem.W.Frag}{mg:Str->Option Value}{base:Heap}{N:List Str}{qual:Str}{scope:Scope}{f:Addr}{cd:Value}{A:Around}{outer:List Env}{s0:Shared}{H0:Hp}{E:XK}
theorem Mi{pins:List (Addr×Obj)}{σ:St}{H:Hp}{s:Shared}{h':Heap}{e C:Addr}{vs:List Value}(I:Inv (lR (CXE P w) P w K mg base N qual scope f cd A outer s0 H0 E) pins σ H s)
  (hx:Heap.MadeExcOf s.heap h' e (.ref C) vs) (hE:E (.ref C) none H):(lR (CXE P w) P w K mg base N qual scope f cd A outer s0 H0 E).xe (.ref e) { s with heap:=h' }:=by
 have XQ:∀ b,b∈frs (envOfC qual scope s0.heap.objs.size f cd::outer)->b=s0.heap.objs.size\/b∈frs outer:=fun b hb=>List.mem_cons.mp (I.rM b hb)
 have hB:∀ b o,s.heap.get? b=some o->b∉frs (envOfC qual scope s0.heap.objs.size f cd::outer)->(PySem.W.hideAll s.heap (frs (envOfC qual scope s0.heap.objs.size f cd::outer))).get? b=some o:=fun b o e n=>PySem.W.hideAll_get _ e n
 show wpAny (model P w) (A.deeper (envOfC qual scope s0.heap.objs.size f cd)) (leaving (envOfC qual scope s0.heap.objs.size f cd) (.ref e)) (fun _ s''=>CXE P w outer H0 s0 E (.ref e) s'') (fun e' s''=>CXE P w outer H0 s0 E e' s'') { s with heap:=h' }
 refine wpAny_leaves_madeW (base:=PySem.W.hideAll s.heap (frs (envOfC qual scope s0.heap.objs.size f cd::outer))) (h:=s.heap) I.ok.frames rfl (fun b o q=>PySem.W.of_hideAll _ q)
  (PySem.W.funFrames_hide I.stack fun env he a ha=>List.mem_filterMap.mpr ⟨env,he,ha⟩) hx fun h'' t fl _ _ sm=>?_
 have new:s.heap.get? e=none:=hx.new
 have sm':s.heap.UpToSlots h'':=(Heap.UpToSlots.of_keeps hx.keeps).trans sm
 have stays:=fl.1
 have Gf:∀ b o,s.heap.get? b=some o->b∉frs (envOfC qual scope s0.heap.objs.size f cd::outer)->h''.get? b=some o:=fun b o q n=>stays b o (hB b o q n)
 have Wi:∀ b o,s0.heap.get? b=some o->b∉frs outer->b∉frs (envOfC qual scope s0.heap.objs.size f cd::outer):=fun b o q n hb=>by
  rcases XQ b hb with z|z
  ·exact Nat.ne_of_lt (Heap.lt_size q) z
  ·exact n z
 have trk:∀ b u,H b=some u->b∉frs (envOfC qual scope s0.heap.objs.size f cd::outer):=fun b u q hb=>by
  have:=I.ug b hb
  rw[q] at this;cases this
 have Eo:∀ b o,s0.heap.get? b=some o->∃ o',s.heap.get? b=some o':=fun b o q=>I.base.there b o q (by show b∉[];simp)
 refine⟨e,C,H,rfl,I.os,I.bare,⟨fun b o q n hb _=>?_,fun b o q n hb _=>?_,fun b o q n hx'=>I.base.free b o q n (by show b∉[];simp),fun b o q _=>?_,I.base.tups,I.base.pC,I.base.rN⟩,fun a o q=>?_,⟨?_,?_,?_⟩,hE⟩
 ·exact Gf b o (I.base.keep b o q n hb (by show b∉[];simp)) (Wi b o q hb)
 ·obtain⟨sl,e1⟩:=I.base.slot b o q n hb (by show b∉[];simp)
  obtain⟨_,o',ho',hd⟩:=I.pD.mem hb
  rw[e1] at ho';cases ho'
  obtain⟨sl',e2⟩:=sm' b _ e1 hd
  exact⟨sl',e2⟩
 ·obtain⟨o',e1⟩:=Eo b o q
  by_cases hb:b∈frs (envOfC qual scope s0.heap.objs.size f cd::outer)
  ·obtain⟨_,o2,ho2,hd⟩:=I.stack.mem hb
   obtain⟨sl',e2⟩:=sm' b _ ho2 hd
   exact⟨_,e2⟩
  ·exact⟨o',Gf b o' e1 hb⟩
 ·refine(I.hok a o q).stay (fun b u hb z=>Gf b u z ?_) (fun _ z=>z) fun _ _ z=>z
  rcases hb with rfl|hb
  ·exact trk b o q
  ·exact trk b _ hb
 ·cases q:H e with
  |none=>rfl
  |some o=>
   obtain⟨ob,z⟩:=(I.hok e o q).there
   rw[new] at z;cases z
 ·cases q:s0.heap.get? e with
  |none=>rfl
  |some o=>
   obtain⟨ob,z⟩:=Eo e o q
   rw[new] at z;cases z
 ·refine⟨_,t,fl,fun b o q hb n=>?_⟩
  have key:∃ o',s.heap.get? b=some o'/\b∉frs (envOfC qual scope s0.heap.objs.size f cd::outer):=by
   rcases hb with z|⟨o',z⟩
   ·cases r:H b with
    |none=>exact absurd r z
    |some u=>
     obtain⟨ob,y⟩:=(I.hok b u r).there
     exact⟨ob,y,trk b u r⟩
   ·obtain⟨o2,y⟩:=Eo b o' z
    exact⟨o2,y,Wi b o' z n⟩
  obtain⟨o',y,n'⟩:=key
  have:=Gf b o' y n'
  rw[q] at this;cases this
  exact hB b o y n'
end
structure gM(K:PySem.W.Frag)(C:Addr):Prop where
 ex:PySem.W.excIn K C [.type "ValueError",.type "Exception",.type "BaseException",.type "object"] "ValueError.__new__" = true
theorem gM.obj{K:PySem.W.Frag}{C:Addr}(c:gM K C){h:Heap}(X:K.In h):∃ tl N nm q bs hdct sn sub ab col dd k0 k1 k2 k3 k5 mN,h.get? C=some (excClassObj nm q C N bs tl hdct sn sub ab col dd k0 k1 k2 k3 k5 "ValueError.__new__")/\h.Ns N mN/\mN "__init__" = none /\
  OwnTail h [.type "ValueError",.type "Exception",.type "BaseException",.type "object"] tl:=by
 have q:=c.ex
 unfold PySem.W.excIn at q
 split at q
 ·rename_i dd cd sl ho
  split at q
  ·rename_i C' bm k0 k1 k2 k3 n k5 hm hs
   simp only[Bool.and_eq_true,beq_iff_eq,Bool.not_eq_true'] at q
   obtain⟨⟨⟨⟨⟨rfl,rfl⟩,hdel⟩,ht⟩,hok⟩,hni⟩:=q
   obtain⟨nm,bs,mro,ns,qn,hd,sn,sub,ab,col,del⟩:=cd
   dsimp only at hm hdel hok hni
   subst hm hdel
   have hsl:sl=#[k0,k1,k2,k3,some (.builtin "ValueError.__new__"),k5]:=by
    obtain⟨l⟩:=sl
    simp only at hs
    rw[hs]
   subst hsl
   exact⟨bm,ns,nm,qn,bs,hd,sn,sub,ab,col,dd,k0,k1,k2,k3,k5,_,X _ _ ho,.of_isNs (PySem.W.isNs_of_in X hok),PySem.W.nsMap_none_of_in X hok hni,PySem.W.tail_of_in X ht⟩
  ·cases q
 ·cases q
def NK(t:TA)(C:Addr)(E:XK):TS:=fun _ σ H=>t σ H fun vs H1=>vs.length<=sizeLine/\E (.ref C) none H1
section
variable{P:Program}{w:World}{K:PySem.W.Frag}{mg:Str->Option Value}{base:Heap}{N:List Str}{qual:Str}{scope:Scope}{f:Addr}{cd:Value}{A:Around}{outer:List Env}{s0:Shared}{H0:Hp}{E:XK}
theorem LQ{x:Str}{np cpos pos:Pos}{e₀:Expr}{rest:List Expr}{t:TA}{C:Addr}(c:gM K C)(hg:Gl (lR (CXE P w) P w K mg base N qual scope f cd A outer s0 H0 E) x)(hm:mg x=some (.ref C))(hh:A.handled=none)
  (ha:PA (lR (CXE P w) P w K mg base N qual scope f cd A outer s0 H0 E) (e₀::rest) t) (hd:(x==("__debug__" : Str))=false:=by decide)
  (he:starEach (e₀::rest) (envOfC qual scope s0.heap.objs.size f cd)=(false,eval e₀ (envOfC qual scope s0.heap.objs.size f cd))::starEach rest (envOfC qual scope s0.heap.objs.size f cd):=by rfl)
  (hplain:(backTo cpos (starEach rest (envOfC qual scope s0.heap.objs.size f cd))).any (·.1)=false:=by rfl) :
  PS (lR (CXE P w) P w K mg base N qual scope f cd A outer s0 H0 E) (.Raise (some (.Call (.Name x np) (e₀::rest) [] cpos)) none pos) (NK t C E):=by
 intro pins s σ H D I h
 obtain⟨tl,Na,nm,q,bs,hdct,sn,sub,ab,col,dd,k0,k1,k2,k3,k5,mN,hC,hN,hni,T⟩:=c.obj I.mod.kin
 refine wpAny_Raise_call_subU (C:=C) (nm:=nm) (q:=q) (N:=Na) (bs:=bs) (bm:=tl) (hdct:=hdct) (sn:=sn) (sub:=sub) (ab:=ab) (col:=col) (dd:=dd) (k0:=k0) (k1:=k1) (k2:=k2) (k3:=k3) (k5:=k5)
  PySem.F.excBase_ValueError (by decide) PySem.F.excBase_ValueError (mN:=mN) (T.hasType PySem.F.excBase_ValueError.hasBase) hh (by
   show(backTo cpos (starEach (e₀::rest) (envOfC qual scope s0.heap.objs.size f cd))).any (·.1)=false
   rw[he];show(false||(backTo cpos (starEach rest (envOfC qual scope s0.heap.objs.size f cd))).any (·.1))=false;rw[hplain];rfl) hni (nF I hg hm ⟨rfl,?_⟩ hd)
 have h2:=ha cpos pins s σ H _ I h
 show wpAny (model P w) _ (evalArgs (.ref C) true (backTo cpos (starEach (e₀::rest) (envOfC qual scope s0.heap.objs.size f cd))) []) _ _ s
 have h3:wpAny (model P w) (A.deeper (envOfC qual scope s0.heap.objs.size f cd)) (spliced (backTo cpos (starEach (e₀::rest) (envOfC qual scope s0.heap.objs.size f cd)))) _ _ s:=h2
 rw[he] at h3 ⊢
 refine Calls.evalArgs_plain (wpAny_mono h3 (fun vs s₂ h₂=>?_) fun _ _ y=>y)
 obtain⟨xs,H1,I1,r,hz,hE⟩:=h₂
 have keep:∀ b o,base.get? b=some o->s₂.heap.get? b=some o:=I1.bk
 exact⟨rfl,by rw[<- r.length];exact hz,keep _ _ hC,hN.keeps keep,T.keeps keep,fun h' e hx=>Mi I1 hx hE⟩
end
section
variable{X:Cx}
def XP(X:Cx)(pins:List (Addr×Obj))(Ex:St->Value->Hp->Prop)(ev:Value)(s':Shared):Prop:=∃ σ H s,Inv X pins σ H s/\CXE X.prog X.w X.stack H s (fun c _ H'=>Ex σ c H') ev s'
abbrev TEX:=St->Hp->VK->(Value->Hp->Prop)->Prop
def PEX(X:Cx)(e:Expr)(t:TEX):Prop:=
 ∀(pins:List (Addr×Obj))(s:Shared)(σ:St)(H:Hp)(Q:VK)(E:Value->Hp->Prop),Inv X pins σ H s->t σ H Q E->wpAny (model X.prog X.w) X.A (eval e X.env) (EP X pins σ Q) (XP X pins fun σ' c H'=>σ'=σ/\E c H') s
abbrev TSX:=Ends->(St->Value->Hp->Prop)->St->Hp->Prop
def PSX(X:Cx)(st:List Stmt)(t:TSX):Prop:=
 ∀(pins:List (Addr×Obj))(s:Shared)(σ:St)(H:Hp)(D:Ends)(Ex:St->Value->Hp->Prop),Inv X pins σ H s->t D Ex σ H->wpAny (model X.prog X.w) X.A (execs st X.env) (SP X pins D) (XP X pins Ex) s
variable{k:Nat}{f C:Addr}{fd:FuncData}{ps:List Str}{sp:Sp}{dvs:List V}{ds:List Value}{x:Str}{p pos:Pos}{e:Expr}{es:List Expr}{t:TA}{CX:CXT}{E:XK}
theorem QV{pins:List (Addr×Obj)}{σ:St}{H:Hp}{s:Shared}{Q:VK}{us:List Value}{vs:List V}{E':Value->Shared->Prop}(F:cu X.prog X.w X.K X.mg X.base CX k f fd ps sp)(hr:dX k X.A)(hb:Binds X.K fd ps ds)(hd:Vals dvs ds)
  (I:Inv X pins σ H s) (r:Vals vs us) (h:sp (vs++dvs) H Q E) (hx:∀ e s',CX X.stack H s E e s'->E' e s'):wpAny (model X.prog X.w) X.A (call (.ref f) us) (EP X pins σ Q) E' s:=by
 have r2:Vals (vs++dvs) (us++ds):=r.append hd
 have hl:(us++ds).length=ps.length:=by rw[<- r2.length];exact F.len _ _ _ _ h
 refine wpAny_call (codeAny_mono (F.run X.A X.stack s H ⟨us,[]⟩ (us++ds) (vs++dvs) Q E hr I.env0 (hb s us I.kIn hl) r2 h) fun r s' hq=>?_)
 cases r with
 |error e=>exact hx e s' hq
 |ok fl=>
  cases fl with
  |ret u=>exact I.after hq
  |next=>exact False.elim hq
  |brk=>exact False.elim hq
  |cont=>exact False.elim hq
def zx(sp:Sp)(dvs:List V)(t:TA):TEX:=fun σ H Q E=>t σ H fun vs H1=>sp (vs++dvs) H1 Q fun c _ H'=>E c H'
theorem Ly(F:cu X.prog X.w X.K X.mg X.base (CXE X.prog X.w) k f fd ps sp)(hr:dX k X.A)(hg:Gl X x)(hm:X.mg x=some (.ref f))(hk:PySem.W.keepIn X.K (.ref f)=true)(hb:Binds X.K fd ps ds)(hd:Vals dvs ds)
  (ha:PA X.nox (e::es) t) (hdb:(x==("__debug__" : Str))=false:=by decide) (he:starEach (e::es) X.env=(false,eval e X.env)::starEach es X.env:=by rfl) (hpl:(backTo pos (starEach es X.env)).any (·.1)=false:=by rfl) :
  PEX X (.Call (.Name x p) (e::es) [] pos) (zx sp dvs t):=by
 intro pins s σ H Q E I h
 refine wpAny_Call_Name_kw (nF I hg hm ?_ hdb)
 refine PySem.W.callWith_K (h₀:=X.base) I.ok.mod.kin hk (wpAny_mono (ha pos pins s σ H _ (I.wish _) h) (fun us s1 ⟨vs,H1,I1,r,q⟩=>⟨I1.kIn,?_⟩) fun _ _ z=>False.elim z) he hpl
 exact QV F hr hb hd I1.iw r q fun ev s' hq=>⟨σ,H1,s1,I1.iw,by
  obtain⟨ea,C,H',h1,h2,h3,h4,h5,h6,h7⟩:=hq
  exact⟨ea,C,H',h1,h2,h3,h4,h5,h6,rfl,h7⟩⟩
def RV(te:TEX):TSX:=fun D Ex σ H=>te σ H D.rt (Ex σ)
theorem Qx{e:Expr}{te:TEX}{pos:Pos}(he:PEX X e te):PSX X [.Return (some e) pos] (RV te):=by
 intro pins s σ H D Ex I h
 refine wpAny_execs_cons (wpAny_Return_some (wpAny_mono (he pins s σ H _ _ I h) (fun v s1 ⟨y,H1,I1,r1,q1⟩=>⟨y,σ,H1,I1,r1,q1⟩) fun ev s' hq=>?_))
 obtain⟨σ',H',s2,I2,ea,C,H3,h1,h2,h3,h4,h5,h6,e1,h7⟩:=hq
 subst e1
 exact⟨σ',H',s2,I2,ea,C,H3,h1,h2,h3,h4,h5,h6,h7⟩
end
end L2
namespace L2
open PySem PySem.Spec PyProof.Rows
section
variable{X:Cx}
def oE(X:Cx)(ea:Addr):Cx:={ X with A:=X.A.mark (some (.ref ea)),calm:=false,xe:=fun _ _=>False }
theorem Inv.hand{pins:List (Addr×Obj)}{σ:St}{H:Hp}{s:Shared}(I:Inv X pins σ H s)(ea:Addr):Inv (oE X ea) pins σ H s:=
 ⟨⟨I.ok.mod,I.ok.kind,I.ok.glob,I.ok.blt,I.ok.above,I.ok.inj,I.ok.has,I.ok.cab,fun z=>absurd (show false=true from z) (by decide),I.ok.frames,I.ok.stk,I.ok.exf,I.ok.bs,I.ok.bsz,I.ok.Im,I.ok.Kc,I.ok.pD,I.ok.frf⟩,
  I.os,I.bare,I.base,I.loc,I.cell,I.free,I.iC,I.pin,I.hok,I.len⟩
theorem Inv.Vp{ea:Addr}{pins:List (Addr×Obj)}{σ:St}{H:Hp}{s:Shared}(ok:X.Ok)(I:Inv (oE X ea) pins σ H s):Inv X pins σ H s:=
 ⟨ok,I.os,I.bare,I.base,I.loc,I.cell,I.free,I.iC,I.pin,I.hok,I.len⟩
theorem Inv.Il{pins:List (Addr×Obj)}{σ:St}{H:Hp}{s:Shared}{h':Heap}{m':Str->Option Value}{tk:Nat}(I:Inv X pins σ H s)(hn:h'.Ns X.env.locals m')(hs:Heap.SameBut X.env.locals s.heap h') :
  Inv X pins (σ.map fun _=>none) H { s with heap:=h',toks:=tk }:=by
 have neL:∀ b o,X.s₀.heap.get? b=some o->b≠X.env.locals:=fun b o e=>Nat.ne_of_lt (Nat.lt_of_lt_of_le (Heap.lt_size e) I.ok.above)
 refine⟨I.ok,I.os,I.bare,⟨fun b o e n hb hx=>?_,fun b o e n hb hx=>?_,I.base.free,fun b o e hx=>?_,I.base.tups,I.base.pC,I.base.rN⟩,⟨m',hn,fun j y v e1 e2 e3=>?_⟩,fun y c e=>?_,I.free,I.iC,fun p hp=>?_,fun b u e=>?_,?_⟩
 ·exact(hs.2 b (neL b o e)).trans (I.base.keep b o e n hb hx)
 ·obtain⟨sl,e1⟩:=I.base.slot b o e n hb hx
  exact⟨sl,(hs.2 b (neL b o e)).trans e1⟩
 ·obtain⟨o',e1⟩:=I.base.there b o e hx
  exact⟨o',(hs.2 b (neL b o e)).trans e1⟩
 ·exfalso
  rw[List.getElem?_map] at e2
  cases q:σ[j]? with
  |none=>rw[q] at e2;cases e2
  |some z=>rw[q] at e2;cases e2
 ·obtain⟨v,z⟩:=I.cell y c e
  exact⟨v,z.sameBut hs (I.cne y c e)⟩
 ·obtain⟨e,n,ne,nf,d⟩:=I.pin p hp
  exact⟨(hs.2 p.1 ne).trans e,n,ne,nf,d⟩
 ·refine(I.hok b u e).stay (fun c v hc q=>(hs.2 c ?_).trans q) (fun _ q=>q) fun _ _ q=>q
  rintro rfl
  rcases hc with z|hc
  ·rw[<- z,I.free] at e;cases e
  ·rw[I.free] at hc;cases hc
 ·rw[List.length_map];exact I.len
theorem land{pins:List (Addr×Obj)}{σ:St}{H H':Hp}{s s' s'':Shared}{B:Heap}(I:Inv X pins σ H s)(os:s'.os=s.os)(un:Un (frs X.stack) [] H H' s.heap s'.heap)(hok:HOk X.prog X.w H' s'.heap)
  (KB:∀ b o,s'.heap.get? b=some o->(H' b≠none\/∃ o',s.heap.get? b=some o')->b∉frs X.stack->B.get? b=some o) (st:B.StaysIn s''.heap) (sm:s'.heap.UpToSlots s''.heap) (Ba:s''.os=s'.os) (bare:AllBare s''.gens):Inv X pins σ H' s'':=by
 have fr:∀ b∈frs X.stack,∃ o sl,s.heap.get? b=some o/\(∀ vs,o.data≠.fields vs)/\H b=none/\s'.heap.get? b=some { o with slots:=sl }/\H' b=none:=fun b hb=>by
  obtain⟨_,o,ho,hd⟩:=I.stack.mem hb
  have hn:=I.ug b hb
  obtain⟨sl,e⟩:=un.slot b o ho hn hb (by simp)
  exact⟨o,sl,ho,hd,hn,e,un.free b o ho hn (by simp)⟩
 refine I.call' (Ba.trans os) (ch:=[]) ⟨fun b o e n hb hx=>?_,fun b o e n hb hx=>?_,un.free,fun b o e hx=>?_,un.tups,un.pC,un.rN⟩ (fun a o e=>?_) bare (fun b hb=>absurd hb (by simp))
 ·exact st b o (KB b o (un.keep b o e n hb hx) (.inr ⟨o,e⟩) hb)
 ·obtain⟨o1,sl,e1,hd,_,e2,_⟩:=fr b hb
  rw[e] at e1;cases e1
  obtain⟨sl',e3⟩:=sm b _ e2 hd
  exact⟨sl',e3⟩
 ·by_cases hb:b∈frs X.stack
  ·obtain⟨o1,sl,e1,hd,_,e2,_⟩:=fr b hb
   obtain⟨sl',e3⟩:=sm b _ e2 hd
   exact⟨_,e3⟩
  ·obtain⟨o',e1⟩:=un.there b o e hx
   exact⟨o',st b o' (KB b o' e1 (.inr ⟨o,e⟩) hb)⟩
 ·have nf:∀ b u,H' b=some u->b∉frs X.stack:=fun b u q hb=>by
   obtain⟨_,_,_,_,_,_,z⟩:=fr b hb
   rw[q] at z;cases z
  refine(hok a o e).stay (fun b u hb q=>?_) (fun _ q=>q) fun _ _ q=>q
  rcases hb with rfl|hb
  ·exact st b u (KB b u q (.inl (by rw[e];simp)) (nf b o e))
  ·exact st b u (KB b u q (.inl (by rw[hb];simp)) (nf b _ hb))
structure Air(X:Cx)(pins:List (Addr×Obj))(σ:St)(H':Hp)(ea C:Addr)(s'':Shared):Prop where
 ex:∃(H:Hp)(s s':Shared)(B:Heap)(t:Addr),Inv X pins σ H s/\s'.os=s.os/\Un (frs X.stack) [] H H' s.heap s'.heap/\HOk X.prog X.w H' s'.heap /\
  (∀ b o,s'.heap.get? b=some o->(H' b≠none\/∃ o',s.heap.get? b=some o')->b∉frs X.stack->B.get? b=some o)/\Heap.FlyingW B X.stack ea (.ref C) (.ref t) s''.heap/\s'.heap.UpToSlots s''.heap/\s''.os=s'.os/\AllBare s''.gens/\s.heap.get? ea=none/\H' ea=none
theorem Air.inv{pins:List (Addr×Obj)}{σ:St}{H':Hp}{ea C:Addr}{s'':Shared}(a:Air X pins σ H' ea C s''):Inv X pins σ H' s'':=by
 obtain⟨H,s,s',B,t,I,os,un,hok,KB,fl,sm,Ba,bare,_,_⟩:=a.ex
 exact land I os un hok KB fl.1 sm Ba bare
theorem Air.obj{pins:List (Addr×Obj)}{σ:St}{H':Hp}{ea C:Addr}{s'':Shared}(a:Air X pins σ H' ea C s''):∃ ob,s''.heap.get? ea=some ob/\ob.cls=.ref C:=by
 obtain⟨H,s,s',B,t,I,os,un,hok,KB,fl,sm,Ba,bare,_,_⟩:=a.ex
 exact fl.there
theorem Air.free{pins:List (Addr×Obj)}{σ:St}{H':Hp}{ea C:Addr}{s'':Shared}(a:Air X pins σ H' ea C s''):H' ea=none:=by
 obtain⟨H,s,s',B,t,I,os,un,hok,KB,fl,sm,Ba,bare,_,z⟩:=a.ex
 exact z
theorem Air.again{pins:List (Addr×Obj)}{σ:St}{H':Hp}{ea C:Addr}{s'':Shared}{M:Model}{A:Around}{E:Value->Shared->Prop}{Q:Unit->Shared->Prop}(a:Air X pins σ H' ea C s'')
  (hQ:∀ h',Air X pins σ H' ea C { s'' with heap:=h' }->Q () { s'' with heap:=h' }):wpAny M A (setFlight (.ref ea) none) Q E s'':=by
 obtain⟨H,s,s',B,t,I,os,un,hok,KB,fl,sm,Ba,bare,n1,n2⟩:=a.ex
 exact lands_againW fl fun h' fl' sm'=>hQ h' ⟨H,s,s',B,t,I,os,un,hok,KB,fl',sm.trans sm',Ba,bare,n1,n2⟩
def Ce(ea C:Addr):HO:=.ext fun h=>∃ ob,h.get? ea=some ob/\ob.cls=.ref C
theorem Ow{P:Program}{w:World}{H:Hp}{h:Heap}{ea C:Addr}(e:∃ ob,h.get? ea=some ob/\ob.cls=.ref C):cM P w H h ea (Ce ea C):=by
 obtain⟨ob,e1,e2⟩:=e
 exact⟨⟨ob,e1,e2⟩,⟨ob,e1⟩,fun h1 h2 ⟨o,q1,q2⟩ k=>⟨o,k o q1,q2⟩⟩
theorem Inv.Vo{pins:List (Addr×Obj)}{σ:St}{H:Hp}{s:Shared}{D:Addr}{o:HO}(I:Inv X pins σ H s)(hn:H D=none)(h0:X.s₀.heap.get? D=none)(hL:D≠X.env.locals)
  (hc:∀ x c,X.env.cells.lookup x=some c->c≠D) (hp:∀ p∈X.pn++pins,p.1≠D) (new:cM X.prog X.w (upd H D o) s.heap D o):Inv X pins σ (upd H D o) s:=by
 have ne:∀ b u,H b=some u->b≠D:=fun b u e=>bG e hn
 refine⟨I.ok,I.os,I.bare,⟨I.base.keep,I.base.slot,fun b u e n hx=>?_,I.base.there,fun b xs e=>?_,fun b u xs e=>?_,fun b ps e=>?_⟩,I.loc,I.cell,?_,fun x c e=>?_,fun p q=>?_,fun b u e=>?_,I.len⟩
 ·rw[aO (fun z=>by rw[z,h0] at e;cases e)]
  exact I.base.free b u e n hx
 ·have e':=I.base.tups b xs e
  rw[aO (ne b _ e')];exact e'
 ·have e':=I.base.pC b u xs e
  rw[aO (ne b _ e')];exact e'
 ·obtain⟨more,e'⟩:=I.base.rN b ps e
  exact⟨more,by rw[aO (ne b _ e')];exact e'⟩
 ·rw[aO (Ne.symm hL)];exact I.free
 ·rw[aO (hc x c e)];exact I.iC x c e
 ·obtain⟨a1,a2,a3,a4,a5⟩:=I.pin p q
  exact⟨a1,by rw[aO (hp p q)];exact a2,a3,a4,a5⟩
 ·by_cases hb:b=D
  ·subst hb;rw[aA] at e;cases e;exact new
  ·rw[aO hb] at e
   exact(I.hok b u e).stay (fun c v _ q=>q) (fun c q=>by rw[aO (ne c _ q)];exact q) fun c xs q=>by rw[aO (ne c _ q)];exact q
theorem Air.track{pins:List (Addr×Obj)}{σ:St}{H':Hp}{ea C:Addr}{s'':Shared}(a:Air X pins σ H' ea C s'')(hex:X.ex=[]):Inv X pins σ (upd H' ea (Ce ea C)) s'':=by
 have J:=a.inv
 have ob:=a.obj
 obtain⟨H,s,s',B,t,I,os,un,hok,KB,fl,sm,Ba,bare,n1,n2⟩:=a.ex
 refine J.Vo n2 ?_ (fun z=>?_) (fun x c e z=>?_) (fun p hp z=>?_) (Ow ob)
 ·cases q:X.s₀.heap.get? ea with
  |none=>rfl
  |some o=>
   obtain⟨o',e⟩:=I.base.there ea o q (by rw[hex];simp)
   rw[n1] at e;cases e
 ·obtain⟨m,⟨o,_,_,ho,_⟩,_⟩:=I.loc
  rw[<- z,n1] at ho;cases ho
 ·obtain⟨v,o,ho,_⟩:=I.cell x c e
  rw[z,n1] at ho;cases ho
 ·have e:=(I.pin p hp).1
  rw[z,n1] at e;cases e
def PH(X:Cx)(hs:List ExceptHandler)(th:Addr->TS):Prop:=
 ∀(pins:List (Addr×Obj))(σ:St)(H:Hp)(ea C:Addr)(s:Shared)(D:Ends),Air X pins σ H ea C s->th C D σ H->wpAny (model X.prog X.w) X.A (handleBy (.ref ea) X.env hs) (SP X pins D) X.xe s
def tQ(K:PySem.W.Frag)(C C':Addr):Bool:=match K.lookup C with
 |some ⟨.type "type",_,.cls cd,_⟩=>!(cd.mro.contains (.ref C'))
 |_=>false
def NQ(K:PySem.W.Frag)(C':Addr)(i:Nat)(ts:TS)(th:Addr->TS):Addr->TS:=fun C D σ H=>
 (C=C'/\∀ ea,H ea=none->ts { nx:=fun _ _=>False,rt:=D.rt } (σ.set i (some (.ref ea))) (upd H ea (Ce ea C)))\/(C≠C'/\gM K C/\tQ K C C'=true/\th C D σ H)
theorem Uv:PH X [] (fun _ _ _ _=>False):=fun _ _ _ _ _ _ _ _ h=>h.elim
theorem Qk{x n:Str}{np hpos:Pos}{b₀:Stmt}{suite:List Stmt}{rest:List ExceptHandler}{C':Addr}{i:Nat}{ts:TS}{th:Addr->TS}(hex:X.ex=[])(hN:X.N.Nodup)(hi:X.N[i]?=some n)(hn:X.env.scope.names.lookup n=some .local)
  (hg:Gl X x) (hm:X.mg x=some (.ref C')) (c':gM X.K C') (hs:∀ ea,PSs (oE X ea) (b₀::suite) ts) (hr:PH X rest th) (hd:(x==("__debug__" : Str))=false:=by decide) :
  PH X (.ExceptHandler (some (.Name x np)) (some n) (b₀::suite) hpos::rest) (NQ X.K C' i ts th):=by
 intro pins σ H ea C s D a h
 have I:=a.inv
 refine wpAny_handleBy_cons (codeAny_handlers_test ?_) (by intro q;cases q)
 refine nF (X:=oE X ea) (I.hand ea) hg hm ?_ hd
 obtain⟨ob,hob,hcls⟩:=a.obj
 rcases h with⟨rfl,h⟩|⟨hne,c,hmiss,h⟩
 ·obtain⟨tl,Na,nm,q,bs,hdct,sn,sub,ab,col,dd,k0,k1,k2,k3,k5,mN,hC,hN',hni,T⟩:=c'.obj I.kIn
  obtain⟨hp,g,d,tk,os⟩:=s
  refine wpAny_excMatches_sub_self hC hob hcls (T.hasType PySem.F.excBase_ValueError.hasBase) ?_
  show codeAny _ _ _ _ _
  refine codeAny_handlers_suite_as (a.again fun h' a'=>?_)
  have J:=(a'.track hex).hand ea
  refine jE (i:=i) (v:=.ref ea) (X:=oE X ea) J hN hi (.inl hn) rfl (fun s2 J2=>?_) (.inr hn)
  refine wpAny_mono (hs ea pins s2 _ _ { nx:=fun _ _=>False,rt:=D.rt } J2 (h ea a'.free)) (fun f s3 q3=>?_) fun _ _ z=>False.elim z
  cases f with
  |next=>obtain⟨_,_,_,z⟩:=q3;exact False.elim z
  |brk=>obtain⟨_,_,_,z⟩:=q3;exact False.elim z
  |cont=>obtain⟨_,_,_,z⟩:=q3;exact False.elim z
  |ret u=>
   obtain⟨v,σ',H'',J3,rv,q⟩:=q3
   obtain⟨m,hnm,_⟩:=J3.loc
   have K3:=J3.Vp I.ok
   show wpAny _ _ _ _ _ _
   refine wpAny_nameGoes hn hnm (by rw[I.ok.kind];rfl) fun h4 m4 hn4 hs4=>?_
   exact⟨v,_,H'',K3.Il hn4 hs4,rv,q⟩
 ·obtain⟨tl,Na,nm,q,bs,hdct,sn,sub,ab,col,dd,k0,k1,k2,k3,k5,mN,hC,hN',hni,T⟩:=c.obj I.kIn
  obtain⟨tl',Na',nm',q',bs',YF,sn',sub',ab',col',dd',k0',k1',k2',k3',k5',mN',hC',hN2,YL,T'⟩:=c'.obj I.kIn
  obtain⟨hp,g,d,tk,os⟩:=s
  have miss:(Value.ref C::tl).contains (.ref C')=false:=by
   unfold tQ at hmiss
   split at hmiss
   ·rename_i dd2 cd2 sl2 ho
    have e:=I.kIn _ _ ho
    have e2:hp.get? C=some ⟨.type "type",dd2,.cls cd2,sl2⟩:=e
    rw[hC] at e2
    unfold excClassObj at e2
    cases e2
    simpa using hmiss
   ·cases hmiss
  have hcB:(Value.ref C'::tl').contains (.type "BaseException")=true:=by rw[List.contains_cons,T'.hasType PySem.F.excBase_ValueError.hasBase,Bool.or_true]
  have f:=tc_notTuple
  have key:∀ Q:Bool->Shared->Prop,Q false ⟨hp,g,d,tk,os⟩->wpAny (model X.prog X.w) (oE X ea).A (excMatches (.ref ea) (.ref C')) Q (notedBy (model X.prog X.w) (X.A.mark (some (.ref ea))) X.env (cameBackBy (model X.prog X.w) X.A X.env X.xe)) ⟨hp,g,d,tk,os⟩:=fun Q hq=>by
   unfold excMatches
   repeat (first|(with_reducible refine wpAny_loadPart_at hob ?_;rw[hcls])|with_reducible refine wpAny_loadPart_at hC' ?_|(with_reducible refine wpAny_isSubtype_exc hC' ?_;rw[hcB])|(with_reducible refine wpAny_isSubtype_exc hC ?_;rw[miss])|wp_step)
   exact hq
  refine key _ ?_
  exact hr pins σ H ea C _ D a h
def Xf(tb:TSX)(th:Addr->TS):TS:=fun D σ H=>tb D (fun σ' c H'=>∃ C,c=.ref C/\th C D σ' H') σ H
theorem UW{body:List Stmt}{h₀:ExceptHandler}{hs:List ExceptHandler}{pos:Pos}{tb:TSX}{th:Addr->TS}(hst:X.stack=X.env::X.outer)(hfr:X.env.frame=some X.env.locals)(hb:PSX X body tb)(hh:PH X (h₀::hs) th) :
  PS X (.Try body (h₀::hs) [] [] pos) (Xf tb th):=by
 intro pins s σ H D I h
 refine wpAny_Try_except (wpAny_mono (hb pins s σ H D _ I h) (fun f s1 q=>?_) fun ev s1 q=>?_)
 ·cases f with
  |next=>exact wpAny_execs_nil q
  |ret v=>exact q
  |brk=>exact q
  |cont=>exact q
 ·obtain⟨σ',H1,s2,I2,ea,C,H',rfl,os,bare,un,hok,fly,C',e,th'⟩:=q
  cases e
  obtain⟨B,t,fl,KB⟩:=fly.fl
  have fl0:=fl
  rw[hst] at fl0
  refine wpAny_looks_onW (by rw[<- hst];exact I2.ok.frames) hfr fl0 fun h4 held sm4=>?_
  refine wpAny_landsW held fun h5 fl5 sm5=>?_
  rw[<- hst] at fl5
  exact hh pins σ' H' ea C _ D ⟨H1,s2,s1,B,t,I2,os,un,hok,KB,fl5,sm4.trans sm5,rfl,bare,fly.new,fly.free⟩ th'
end
end L2
namespace L2
open PySem PySem.Spec PyProof.Rows
def Its(z:Str):It:=⟨fun i _=>i<z.cps.size,fun i H x H'=>H'=H/\∃ c,z.cps[i]?=some c/\x=.str ⟨#[c]⟩,fun i _=>z.cps.size<=i⟩
theorem Ju{P:Program}{w:World}{K:PySem.W.Frag}{tg:Expr}(z:Str)(t:Tok)(it:Addr):Turn P w K tg (Its z) [it] it (fun i h=>h.IsStrIter it "str_ascii_iterator" z t i) where
 mem:=by simp
 obj:=fun i h st b hb=>by
  have e:b=it:=by simpa using hb
  subst e
  obtain⟨o,e,c,d⟩:=st
  exact⟨o,e,fun v q=>by rw[d] at q;cases q⟩
 keep:=fun i h h' st k=>by
  obtain⟨o,e,c,d⟩:=st
  exact⟨o,k it (by simp) o e,c,d⟩
 item:=by
  intro X hP hw hK hc i pins s σ H E I hf st hg
  subst hP hw hK
  obtain⟨f0,f1,f2,f3,f4,f5⟩:=hf it (by simp)
  have hgi:i<z.cps.size:=hg
  refine wpAny_pyNext_ascii_item st (c:=z.cps[i]) (by simp[hgi]) fun h' st' sb=>?_
  have I1:Inv X pins σ H { s with heap:=h',toks:=s.toks+1 }:=I.turned (fun b o hb e=>(sb.2 b hb).trans e) f0 f1 f3 f4 f5
  obtain⟨o,e,c,d⟩:=id st'
  exact⟨_,rfl,FT (s:={ s with heap:=h',toks:=s.toks+1 }) e c d (by decide) ⟨.str ⟨#[z.cps[i]]⟩,H,I1,⟨_,rfl⟩,⟨rfl,z.cps[i],by simp[hgi],rfl⟩,st',fun b hb=>(hf b hb).1⟩⟩
 done:=by
  intro X hP hw hK hc i pins s σ H E I hf st hg
  subst hP hw hK
  obtain⟨f0,f1,f2,f3,f4,f5⟩:=hf it (by simp)
  have hgi:z.cps.size<=i:=hg
  exact wpAny_pyNext_ascii_end (I.ok.hd hc) st (by simp[hgi]) fun h' eb=>⟨rfl,I.turned (t':=s.toks) (fun b o hb e=>eb b o hb e) f0 f1 f3 f4 f5⟩
 self:=fun _ _ _ _ _ st h=>wpAny_pyIter_striter_ascii st h
theorem Jv{P:Program}{w:World}{K:PySem.W.Frag}{tg:Expr}(z:Str)(t:Tok)(it:Addr):Turn P w K tg (Its z) [it] it (fun i h=>h.IsStrIter it "str_iterator" z t i) where
 mem:=by simp
 obj:=fun i h st b hb=>by
  have e:b=it:=by simpa using hb
  subst e
  obtain⟨o,e,c,d⟩:=st
  exact⟨o,e,fun v q=>by rw[d] at q;cases q⟩
 keep:=fun i h h' st k=>by
  obtain⟨o,e,c,d⟩:=st
  exact⟨o,k it (by simp) o e,c,d⟩
 item:=by
  intro X hP hw hK hc i pins s σ H E I hf st hg
  subst hP hw hK
  obtain⟨f0,f1,f2,f3,f4,f5⟩:=hf it (by simp)
  have hgi:i<z.cps.size:=hg
  refine wpAny_pyNext_wide_item st (c:=z.cps[i]) (by simp[hgi]) fun h' st' sb=>?_
  have I1:Inv X pins σ H { s with heap:=h',toks:=s.toks+1 }:=I.turned (fun b o hb e=>(sb.2 b hb).trans e) f0 f1 f3 f4 f5
  obtain⟨o,e,c,d⟩:=id st'
  exact⟨_,rfl,FT (s:={ s with heap:=h',toks:=s.toks+1 }) e c d (by decide) ⟨.str ⟨#[z.cps[i]]⟩,H,I1,⟨_,rfl⟩,⟨rfl,z.cps[i],by simp[hgi],rfl⟩,st',fun b hb=>(hf b hb).1⟩⟩
 done:=by
  intro X hP hw hK hc i pins s σ H E I hf st hg
  subst hP hw hK
  obtain⟨f0,f1,f2,f3,f4,f5⟩:=hf it (by simp)
  have hgi:z.cps.size<=i:=hg
  exact wpAny_pyNext_wide_end (I.ok.hd hc) st (by simp[hgi]) fun h' eb=>⟨rfl,I.turned (t':=s.toks) (fun b o hb e=>eb b o hb e) f0 f1 f3 f4 f5⟩
 self:=fun _ _ _ _ _ st h=>wpAny_pyIter_striter_wide st h
section
variable{X:Cx}{tg:Expr}
def W6(te:TE):TI:=fun σ H R=>te σ H fun x H1=>∃ z,x=.str z/\R (Its z) H1
theorem Uw{l:Expr}{te:TE}(hl:PE X l te):PI X tg l (W6 te):=by
 intro pins s σ H R I h
 refine thn (hl pins s σ H _ I h) fun v s1 ⟨x,H1,I1,r1,q1⟩=>?_
 obtain⟨z,e,q⟩:=q1
 subst e
 obtain⟨t,rfl⟩:=r1
 have fp:∀ b∈[s1.heap.objs.size],nP X pins H1 b:=fun b hb=>by
  have e:b=s1.heap.objs.size:=by simpa using hb
  subst e
  exact I1.Af (Nat.le_refl _) (I1.hok.fresh (Nat.le_refl _))
 cases ha:z.cps.all (·<128)
 ·exact wpAny_pyIter_wide ha ⟨s1.heap.objs.size,[s1.heap.objs.size],_,_,H1,rfl,I1.kept (t':=s1.toks) fun b o e=>Heap.get?_push_of_some _ e,Jv z t _,⟨_,Heap.get?_push_size _ rfl,rfl,rfl⟩,fp,q⟩
 ·exact wpAny_pyIter_ascii ha ⟨s1.heap.objs.size,[s1.heap.objs.size],_,_,H1,rfl,I1.kept (t':=s1.toks) fun b o e=>Heap.get?_push_of_some _ e,Ju z t _,⟨_,Heap.get?_push_size _ rfl,rfl,rfl⟩,fp,q⟩
def WY:V->Option Int->Option Int->Hp->VK->Prop:=fun x lo hi H Q=>∃ z,x=.str z/\z.length<=sizeLine/\Q (.str (Txt.slice z lo hi)) H
theorem uZ{u:Value}{o:Option Int}(p:IsPart u o):∃ l:Option (Int×Tok),u=partValue l/\o=l.map (·.1):=by
 cases p with
 |none=>exact⟨none,rfl,rfl⟩
 |int i t=>exact⟨some (i,t),rfl,rfl⟩
theorem Vh:SlR X WY:=by
 intro pins s σ H x v vl vu lo hi sl Q I rx hs pl pu h
 obtain⟨z,rfl,hz,q⟩:=h
 obtain⟨t,rfl⟩:=rx
 obtain⟨l,rfl,rfl⟩:=uZ pl
 obtain⟨u,rfl,rfl⟩:=uZ pu
 refine⟨"str",_,F.slot_str_getitem.lookup,typeIs_str _ _ _,wpAny_getItem_str_slice (l:=l) (u:=u) (st:=none) hs rfl ?_⟩
 exact post_val_or_str ⟨Nat.le_trans (Txt.slice_le z _ _) hz,fun t' k=>⟨.str _,H,I.tok _,⟨_,rfl⟩,q⟩⟩
def V9(z:Str)(n:Int):Str:=if n<1 then Str.empty else if(n==1||z.length==0)=true then z else⟨(List.replicate n.toNat z.cps).foldl (·++·) #[]⟩
theorem DQ:OpR X (binaryOp .Mult) (fun x y H Q=>∃ z n,x=.str z/\y=.int n/\z.length<=1000 /\ -1000<=n/\n<=1000/\Q (.str (V9 z n)) H):=by
 intro pins s σ H x y v u Q I rx ry h
 obtain⟨z,n,rfl,rfl,hz,h1,h2,q⟩:=h
 obtain⟨t,rfl⟩:=rx
 obtain⟨t',rfl⟩:=ry
 refine P.mul_str (by rw[decide_eq_false (by lia),decide_eq_false (by lia)];rfl) (fun hn _=>?_) (fun hn _=>?_) ?_
 ·have:(1000:Int)<=(2^63-1) / n:=by
   rw[Int.le_ediv_iff_mul_le (by lia)];lia
  lia
 ·have:z.length*n.toNat<=1000*1000:=Nat.mul_le_mul hz (by lia)
  show decide (z.length*n.toNat>sizeLine)=false
  rw[sizeLine_eq]
  exact decide_eq_false (by lia)
 ·unfold V9 at q
  by_cases h3:n<1
  ·rw[if_pos h3] at q ⊢
   exact⟨by decide,⟨.str _,H,I.tok _,⟨_,rfl⟩,q⟩⟩
  ·rw[if_neg h3] at q ⊢
   by_cases h4:(n==1||z.length==0)=true
   ·rw[if_pos h4] at q ⊢
    exact⟨.str _,H,I,⟨_,rfl⟩,q⟩
   ·rw[if_neg h4] at q ⊢
    refine⟨?_,⟨.str _,H,I.tok _,⟨_,rfl⟩,q⟩⟩
    have e:∀(k:Nat)(acc:Array Nat),((List.replicate k z.cps).foldl (·++·) acc).size=acc.size+k*z.cps.size:=by
     intro k
     induction k with
     |zero=>intro acc;simp
     |succ k ih=>
      intro acc
      rw[List.replicate_succ,List.foldl_cons,ih,Array.size_append,Nat.add_mul,Nat.one_mul]
      lia
    have e2:=e n.toNat #[]
    have hz':z.cps.size<=1000:=hz
    have:n.toNat*z.cps.size<=1000*1000:=Nat.mul_le_mul (by lia) hz'
    show((List.replicate n.toNat z.cps).foldl (·++·) #[]).size<=sizeLine
    rw[e2,sizeLine_eq]
    simp only[List.size_toArray,List.length_nil]
    lia
theorem JH(hc:X.calm=true):cA X (.builtin "all") (fun xs H Q=>∃(p:Addr)(bs:List Bool),xs=[.ref p]/\SqL X.K H p (bs.map V.bl)/\Q (.bl (bs.all id)) H):=by
 intro pins s σ H xs us Q I r h
 obtain⟨p,bs,rfl,hq,q⟩:=h
 obtain⟨u,rfl,ru⟩:=vals1 r
 cases ru
 obtain⟨its,rv,pl,hz⟩:=I.list hq
 have hl:its.length=bs.length:=by have:=rv.length;simpa using this.symm
 have item:∀(i:Nat)(v:Value),its[i]?=some v->v=.bool (bs.getD i true):=fun i v e=>by
  have hi:i<bs.length:=by rw[<- hl];exact(List.getElem?_eq_some_iff.mp e).1
  have hx:(bs.map V.bl)[i]?=some (V.bl bs[i]):=by simp[hi]
  obtain⟨w',e',rw'⟩:=rv.get hx
  rw[e] at e';cases e'
  have:bs.getD i true=bs[i]:=by simp[List.getD_eq_getElem?_getD,hi]
  rw[this]
  exact rw'
 have hne:p≠s.heap.objs.size:=fun z=>by
  obtain⟨o,n,e,_⟩:=pl
  exact Nat.lt_irrefl _ (z▸Heap.lt_size e)
 refine call_all_walk (wpAny_pyIter_list pl.isList ?_)
 refine⟨s.heap.objs.size,[s.heap.objs.size,p],[s.heap.objs.size],its.toArray.size,fun i v=>its.toArray[i]?=some v,fun i h=>h.IsListIter s.heap.objs.size p i/\h.IsList p its.toArray,fun i=>bs.getD i true,rfl,
  Walks.list (A:=X.A.in1) (I.ok.hd hc) _ p hne its.toArray,⟨⟨_,Heap.get?_push_size _ rfl,rfl,rfl⟩,pl.isList.at fun o e=>Heap.get?_push_of_some _ e⟩,fun i v s' Q' E' hP hQ=>?_,fun h' tk kk=>?_⟩
 ·have:=item i v (by simpa using hP)
  subst this
  exact wpAny_truthy_bool hQ
 ·have hb:(List.range its.toArray.size).all (fun i=>bs.getD i true)=bs.all id:=by
   rw[List.size_toArray,hl]
   apply Bool.eq_iff_iff.mpr
   simp only[List.all_eq_true,List.mem_range,id]
   constructor
   ·intro h x hx
    obtain⟨i,hi,rfl⟩:=List.getElem_of_mem hx
    have:=h i hi
    simpa [List.getD_eq_getElem?_getD,hi] using this
   ·intro h i hi
    have:=h bs[i] (List.getElem_mem hi)
    simpa [List.getD_eq_getElem?_getD,hi] using this
  rw[hb]
  have I1:Inv X pins σ H { s with heap:=h',toks:=tk }:=I.kept fun b o e=>kk b o (fun z=>by
   have z':b=s.heap.objs.size:=by simpa using z
   exact Nat.lt_irrefl _ (z'▸Heap.lt_size e)) (Heap.get?_push_of_some _ e)
  exact⟨.bl _,H,I1,rfl,q⟩
end
end L2
namespace L2
open PySem PySem.Spec PyProof.Rows PySem.SeqAt
inductive Dt where
 |non|bl (b:Bool)|int (i:Int)|str (x:Str)|tup (ds:List Dt)|lst (ds:List Dt)
mutual
inductive Den(K:PySem.W.Frag)(H:Hp):V->Dt->Prop
 |non:Den K H .non .non
 |bl (b:Bool):Den K H (.bl b) (.bl b)
 |int (i:Int):Den K H (.int i) (.int i)
 |str (x:Str):Den K H (.str x) (.str x)
 |tup {a:Addr} {xs:List V} {ds:List Dt} (h:H a=some (.tup xs)) (hs:aN K H xs ds):Den K H (.ref a) (.tup ds)
 |lst {a:Addr} {xs:List V} {ds:List Dt} (h:SqL K H a xs) (hs:aN K H xs ds):Den K H (.ref a) (.lst ds)
inductive aN(K:PySem.W.Frag)(H:Hp):List V->List Dt->Prop
 |nil:aN K H [] []
 |cons {x:V} {d:Dt} {xs:List V} {ds:List Dt} (h:Den K H x d) (t:aN K H xs ds):aN K H (x::xs) (d::ds)
end
def iB:Dt->Option V
 |.non=>some .non
 |.bl b=>some (.bl b)
 |.int i=>some (.int i)
 |.str x=>some (.str x)
 |_=>none
mutual
def eqD:Dt->Dt->Bool
 |.tup a,.tup b=>oZ a b
 |.lst a,.lst b=>oZ a b
 |.non,e=>match iB e with|some y=>eqV .non y|none=>false
 |.bl x,e=>match iB e with|some y=>eqV (.bl x) y|none=>false
 |.int x,e=>match iB e with|some y=>eqV (.int x) y|none=>false
 |.str x,e=>match iB e with|some y=>eqV (.str x) y|none=>false
 |.tup _,_=>false
 |.lst _,_=>false
def oZ:List Dt->List Dt->Bool
 |[],[]=>true
 |a::as,b::bs=>eqD a b&&oZ as bs
 |[],_::_=>false
 |_::_,[]=>false
end
def Tz:Dt->Dt->Bool
 |.tup _,e=>(iB e).isSome
 |_,_=>false
mutual
def shD:Dt->Dt->Bool
 |.tup a,.tup b=>rF a b
 |.lst a,.lst b=>rF a b
 |.non,e=>(iB e).isSome
 |.bl _,e=>(iB e).isSome
 |.int _,e=>(iB e).isSome
 |.str _,e=>(iB e).isSome
 |.tup _,_=>false
 |.lst _,_=>false
def rF:List Dt->List Dt->Bool
 |a::as,b::bs=>(shD a b||Tz a b)&&rF as bs
 |_,_=>true
end
mutual
def lB:Dt->Nat
 |.tup a=>iy a+1
 |.lst a=>iy a+1
 |_=>0
def iy:List Dt->Nat
 |[]=>0
 |a::as=>max (lB a) (iy as)
end
theorem aN.length{K:PySem.W.Frag}{H:Hp}:∀ {xs:List V} {ds:List Dt},aN K H xs ds->xs.length=ds.length
 |_,_,.nil=>rfl
 |_,_,.cons _ t=>by rw[List.length_cons,List.length_cons,t.length]
theorem aN.get{K:PySem.W.Frag}{H:Hp}:∀ {xs:List V} {ds:List Dt} {i:Nat} {x:V},aN K H xs ds->xs[i]?=some x->∃ d,ds[i]?=some d/\Den K H x d
 |_,_,_,_,.nil,e=>by simp at e
 |_,_,0,_,.cons h _,e=>by simp at e;subst e;exact⟨_,rfl,h⟩
 |_,_,i+1,x,.cons _ t,e=>by
  obtain⟨d,h1,h2⟩:=aN.get (i:=i) (x:=x) t (by simpa using e)
  exact⟨d,by simpa using h1,h2⟩
theorem aN.get'{K:PySem.W.Frag}{H:Hp}:∀ {xs:List V} {ds:List Dt} {i:Nat} {d:Dt},aN K H xs ds->ds[i]?=some d->∃ x,xs[i]?=some x/\Den K H x d
 |_,_,_,_,.nil,e=>by simp at e
 |_,_,0,_,.cons h _,e=>by simp at e;subst e;exact⟨_,rfl,h⟩
 |_,_,i+1,d,.cons _ t,e=>by
  obtain⟨x,h1,h2⟩:=aN.get' (i:=i) (d:=d) t (by simpa using e)
  exact⟨x,by simpa using h1,h2⟩
theorem aN.append{K:PySem.W.Frag}{H:Hp}:∀ {xs ys:List V} {ds es:List Dt},aN K H xs ds->aN K H ys es->aN K H (xs++ys) (ds++es)
 |_,_,_,_,.nil,s=>s
 |_,_,_,_,.cons h t,s=>.cons h (t.append s)
theorem mY:∀ {ds:List Dt} {d:Dt},d∈ds->lB d<=iy ds
 |a::as,d,h=>by
  unfold iy
  rcases List.mem_cons.mp h with e|e
  ·rw[e];exact Nat.le_max_left _ _
  ·exact Nat.le_trans (mY e) (Nat.le_max_right _ _)
theorem pZ:∀ {as bs:List Dt} {i:Nat} {a b:Dt},rF as bs=true->as[i]?=some a->bs[i]?=some b->shD a b=true\/Tz a b=true
 |x::as,y::bs,0,a,b,h,e1,e2=>by
  simp at e1 e2;subst e1;subst e2
  unfold rF at h;simp only[Bool.and_eq_true,Bool.or_eq_true] at h;exact h.1
 |x::as,y::bs,i+1,a,b,h,e1,e2=>by
  unfold rF at h;simp only[Bool.and_eq_true] at h
  exact pZ (i:=i) h.2 (by simpa using e1) (by simpa using e2)
 |[],_,_,_,_,_,e1,_=>by simp at e1
 |_::_,[],_,_,_,_,_,e2=>by simp at e2
def atD(as bs:List Dt)(j:Nat):Bool:=eqD (as.getD j .non) (bs.getD j .non)
theorem vH(n:Nat)(p:Nat->Bool):(List.range (n+1)).all p=(p 0&&(List.range n).all fun j=>p (j+1)):=by
 rw[List.range_succ_eq_map,List.all_cons,List.all_map]
 rfl
theorem pq:∀ {as bs:List Dt},as.length=bs.length->(List.range as.length).all (atD as bs)=oZ as bs
 |[],[],_=>rfl
 |a::as,b::bs,h=>by
  have ih:=@pq as bs (by simpa using h)
  rw[List.length_cons,vH]
  unfold oZ
  rw[<- ih]
  rfl
 |[],_::_,h=>by simp at h
 |_::_,[],h=>by simp at h
theorem pA:∀ {as bs:List Dt},as.length≠bs.length->oZ as bs=false
 |[],[],h=>absurd rfl h
 |a::as,b::bs,h=>by
  unfold oZ
  rw[pA (as:=as) (bs:=bs) (fun z=>h (by rw[List.length_cons,List.length_cons,z])),Bool.and_false]
 |[],_::_,_=>rfl
 |_::_,[],_=>rfl
theorem Ad:∀ {as bs:List Dt},((List.range (min as.length bs.length)).all (atD as bs)&&as.length==bs.length)=oZ as bs:=by
 intro as bs
 by_cases h:as.length=bs.length
 ·rw[<- h,Nat.min_self,pq h];simp
 ·rw[pA h];simp[h]
theorem uV:∀ {x:V},FP x=true->eqV x x=true
 |.non,_=>rfl
 |.bl b,_=>by simp[eqV]
 |.int i,_=>by simp[eqV]
 |.str x,_=>by simp[eqV]
mutual
theorem lW:∀ d:Dt,eqD d d=true
 |.non=>rfl
 |.bl b=>by show eqV (.bl b) (.bl b)=true;exact uV rfl
 |.int i=>by show eqV (.int i) (.int i)=true;exact uV rfl
 |.str x=>by show eqV (.str x) (.str x)=true;exact uV rfl
 |.tup ds=>by unfold eqD;exact qM ds
 |.lst ds=>by unfold eqD;exact qM ds
theorem qM:∀ ds:List Dt,oZ ds ds=true
 |[]=>rfl
 |a::as=>by unfold oZ;rw[lW a,qM as];rfl
end
mutual
theorem vQ:∀ d:Dt,shD d d=true
 |.non=>rfl
 |.bl _=>rfl
 |.int _=>rfl
 |.str _=>rfl
 |.tup ds=>by unfold shD;exact rG ds
 |.lst ds=>by unfold shD;exact rG ds
theorem rG:∀ ds:List Dt,rF ds ds=true
 |[]=>rfl
 |a::as=>by unfold rF;rw[vQ a,rG as,Bool.true_or];rfl
end
theorem Gm{X:Cx}{pins:List (Addr×Obj)}{σ:St}{H:Hp}{s:Shared}{a:Addr}{xs ys:List V}(I:Inv X pins σ H s)(h:SqT X.K H a xs)(h':SqL X.K H a ys):False:=by
 obtain⟨_,_,⟨o,e,c,_⟩,_⟩:=I.tuple h
 obtain⟨_,_,⟨o',_,e',c',_⟩,_⟩:=I.list h'
 rw[e] at e';cases e'
 rw[c] at c';exact absurd c' (by decide)
mutual
theorem Den.inj{X:Cx}{pins:List (Addr×Obj)}{σ:St}{H:Hp}{s:Shared}(I:Inv X pins σ H s):∀ {d:Dt} {e:Dt} {x:V},Den X.K H x d->Den X.K H x e->d=e
 |.tup ds,_,_,.tup h hs,he=>by
  cases he with
  |tup h' hs'=>
   have e:=I.Jr (SqT.of h) (SqT.of h')
   subst e
   rw[aN.inj I hs hs']
  |lst h' hs'=>exact(Gm I (SqT.of h) h').elim
 |.lst ds,_,_,.lst h hs,he=>by
  cases he with
  |lst h' hs'=>
   have e:=I.vh h h'
   subst e
   rw[aN.inj I hs hs']
  |tup h' hs'=>exact(Gm I (SqT.of h') h).elim
 |.non,_,_,.non,he=>by cases he;rfl
 |.bl _,_,_,.bl _,he=>by cases he;rfl
 |.int _,_,_,.int _,he=>by cases he;rfl
 |.str _,_,_,.str _,he=>by cases he;rfl
theorem aN.inj{X:Cx}{pins:List (Addr×Obj)}{σ:St}{H:Hp}{s:Shared}(I:Inv X pins σ H s):∀ {ds es:List Dt} {xs:List V},aN X.K H xs ds->aN X.K H xs es->ds=es
 |[],_,_,.nil,he=>by cases he;rfl
 |d::ds,_,_,.cons h t,he=>by
  cases he with
  |cons h' t'=>rw[Den.inj I h h',aN.inj I t t']
end
theorem aN.getD{K:PySem.W.Frag}{H:Hp}{xs:List V}{ds:List Dt}{us:List Value}{j:Nat}(D:aN K H xs ds)(r:Vals xs us)(h:j<us.length):∃ x,RelV x us[j]/\Den K H x (ds.getD j .non)/\ds[j]?=some (ds.getD j .non):=by
 have hl:=r.length
 have hx:xs[j]?=some xs[j]:=by simp[hl,h]
 obtain⟨u,hu,ru⟩:=r.get hx
 obtain⟨d,hd,dd⟩:=D.get hx
 have eu:us[j]=u:=by
  rw[List.getElem?_eq_getElem h] at hu
  exact Option.some.inj hu
 have ed:ds.getD j .non=d:=by rw[List.getD_eq_getElem?_getD,hd];rfl
 rw[eu,ed]
 exact⟨_,ru,dd,hd⟩
theorem Den.flat{K:PySem.W.Frag}{H:Hp}{x:V}{d:Dt}{y:V}(h:Den K H x d)(e:iB d=some y):x=y/\FP x=true:=by
 cases h with
 |non=>cases e;exact⟨rfl,rfl⟩
 |bl b=>cases e;exact⟨rfl,rfl⟩
 |int i=>cases e;exact⟨rfl,rfl⟩
 |str z=>cases e;exact⟨rfl,rfl⟩
 |tup _ _=>cases e
 |lst _ _=>cases e
theorem lV{d e:Dt}{x y:V}(h1:iB d=some x)(h2:iB e=some y):eqD d e=eqV x y:=by
 cases d<;>first
  |(cases h1;simp only[eqD,h2])
  |cases h1
theorem Bp{d e:Dt}{x:V}(h1:iB d=some x)(h:shD d e=true):∃ y,iB e=some y:=by
 cases d<;>first
  |(cases h1;unfold shD at h;exact Option.isSome_iff_exists.mp h)
  |cases h1
theorem uU{X:Cx}{pins:List (Addr×Obj)}{σ:St}{H:Hp}{s:Shared}(I:Inv X pins σ H s){d e:Dt}{x y:V}{u v:Value}{A:Around}(hu:A.units<cLine)(hx:Den X.K H x d)(hy:Den X.K H y e)(rx:RelV x u)(ry:RelV y v)(mx:Tz d e=true):EqAt A s u v (eqD d e):=by
 cases hx with
 |@tup a xs ds h hs=>
  cases rx
  obtain⟨us,r,ht,_⟩:=I.tuple (SqT.of h)
  cases hy with
  |non=>cases ry;exact EqAt.tuple_none ht hu
  |bl b=>cases ry;exact EqAt.tuple_bool b ht hu
  |int i=>obtain⟨t,rfl⟩:=ry;exact EqAt.tuple_int i t ht hu
  |str z=>obtain⟨t,rfl⟩:=ry;exact EqAt.tuple_str z t ht hu
  |tup _ _=>cases mx
  |lst _ _=>cases mx
 |_=>cases mx
theorem Ab{X:Cx}{pins:List (Addr×Obj)}{σ:St}{H:Hp}{s:Shared}(I:Inv X pins σ H s):∀(n:Nat){d e:Dt}{x y:V}{u v:Value}{A:Around},lB d<=n->A.units+n<cLine->Den X.K H x d->Den X.K H y e->RelV x u->RelV y v->shD d e=true->EqAt A s u v (eqD d e):=by
 intro n
 induction n with
 |zero=>
  intro d e x y u v A hn hu hx hy rx ry sh
  cases fd:iB d with
  |some x'=>
   obtain⟨y',fe⟩:=Bp fd sh
   obtain⟨rfl,f1⟩:=hx.flat fd
   obtain⟨rfl,f2⟩:=hy.flat fe
   rw[lV fd fe]
   exact Ka rx ry f1 f2
  |none=>
   cases d with
   |tup ds=>unfold lB at hn;exact absurd hn (by lia)
   |lst ds=>unfold lB at hn;exact absurd hn (by lia)
   |_=>cases fd
 |succ n ih=>
  intro d e x y u v A hn hu hx hy rx ry sh
  cases fd:iB d with
  |some x'=>
   obtain⟨y',fe⟩:=Bp fd sh
   obtain⟨rfl,f1⟩:=hx.flat fd
   obtain⟨rfl,f2⟩:=hy.flat fe
   rw[lV fd fe]
   exact Ka rx ry f1 f2
  |none=>
   cases d with
   |tup ds=>
    cases e with
    |tup es=>
     cases hx with
     |@tup a xs _ h hs=>
      cases hy with
      |@tup b ys _ h' hs'=>
       cases rx
       cases ry
       by_cases hab:a=b
       ·subst hab
        have e:=Den.inj I (.tup h hs) (.tup h' hs')
        rw[e,lW]
        exact EqAt.same _
       ·obtain⟨us,r,ht,_⟩:=I.tuple (SqT.of h)
        obtain⟨ws,r',ht',_⟩:=I.tuple (SqT.of h')
        have sh':rF ds es=true:=by unfold shD at sh;exact sh
        rw[show eqD (.tup ds) (.tup es)=oZ ds es from by unfold eqD;rfl]
        rw[<- Ad]
        have l1:us.toArray.size=ds.length:=by rw[List.size_toArray,<- r.length,hs.length]
        have l2:ws.toArray.size=es.length:=by rw[List.size_toArray,<- r'.length,hs'.length]
        rw[<- l1,<- l2]
        refine EqAt.of_refs hab (RcAt.tuples ht ht' (by lia) fun j h1 h2=>?_)
        obtain⟨p,rp,dp,ep⟩:=hs.getD r (j:=j) (by simpa using h1)
        obtain⟨q,rq,dq,eq⟩:=hs'.getD r' (j:=j) (by simpa using h2)
        unfold lB at hn
        have hd:=mY (List.mem_of_getElem? ep)
        exact(pZ sh' ep eq).elim (fun z=>ih (A:=A.in1) (by lia) (by show A.units+1+n<cLine;lia) dp dq (by simpa using rp) (by simpa using rq) z) (fun z=>uU (A:=A.in1) I (by show A.units+1<cLine;lia) dp dq (by simpa using rp) (by simpa using rq) z)
    |_=>unfold shD at sh;cases sh
   |lst ds=>
    cases e with
    |lst es=>
     cases hx with
     |@lst a xs _ h hs=>
      cases hy with
      |@lst b ys _ h' hs'=>
       cases rx
       cases ry
       by_cases hab:a=b
       ·subst hab
        have e:=Den.inj I (.lst h hs) (.lst h' hs')
        rw[e,lW]
        exact EqAt.same _
       ·obtain⟨us,r,ht,_⟩:=I.list h
        obtain⟨ws,r',ht',_⟩:=I.list h'
        have sh':rF ds es=true:=by unfold shD at sh;exact sh
        rw[show eqD (.lst ds) (.lst es)=oZ ds es from by unfold eqD;rfl]
        have l1:us.toArray.size=ds.length:=by rw[List.size_toArray,<- r.length,hs.length]
        have l2:ws.toArray.size=es.length:=by rw[List.size_toArray,<- r'.length,hs'.length]
        by_cases hl:ds.length=es.length
        ·rw[<- pq hl,<- l1]
         refine EqAt.of_refs hab (RcAt.lists ht.isList ht'.isList (by rw[l1,l2];exact hl) (by lia) fun j h1 h2=>?_)
         obtain⟨p,rp,dp,ep⟩:=hs.getD r (j:=j) (by simpa using h1)
         obtain⟨q,rq,dq,eq⟩:=hs'.getD r' (j:=j) (by simpa using h2)
         unfold lB at hn
         have hd:=mY (List.mem_of_getElem? ep)
         exact(pZ sh' ep eq).elim (fun z=>ih (A:=A.in1) (by lia) (by show A.units+1+n<cLine;lia) dp dq (by simpa using rp) (by simpa using rq) z) (fun z=>uU (A:=A.in1) I (by show A.units+1<cLine;lia) dp dq (by simpa using rp) (by simpa using rq) z)
        ·rw[pA hl]
         exact EqAt.of_refs hab (RcAt.lists_lengths ht.isList ht'.isList (by rw[l1,l2];simpa using hl) (by lia))
    |_=>unfold shD at sh;cases sh
   |_=>cases fd
end L2
namespace L2
open PySem PySem.Spec PyProof.Rows PySem.SeqAt
section
variable{X:Cx}{pins:List (Addr×Obj)}{σ:St}{H:Hp}{s:Shared}
def Vg:Dt->Option (List Dt)
 |.tup ds=>some ds
 |.lst ds=>some ds
 |_=>none
theorem nA{n:Nat}{A:Around}(I:Inv X pins σ H s){xs ys:List V}{ds es:List Dt}{us ws:List Value}(hn:iy ds<=n)(hu:A.units+(n+1)<cLine)(hs:aN X.K H xs ds)(hs':aN X.K H ys es)(r:Vals xs us)(r':Vals ys ws)
  (sh:rF ds es=true) (j:Nat) (h1:j<us.toArray.size) (h2:j<ws.toArray.size):EqAt A.in1 s us.toArray[j] ws.toArray[j] (atD ds es j):=by
 obtain⟨p,rp,dp,ep⟩:=hs.getD r (j:=j) (by simpa using h1)
 obtain⟨q,rq,dq,eq⟩:=hs'.getD r' (j:=j) (by simpa using h2)
 have hd:=mY (List.mem_of_getElem? ep)
 exact(pZ sh ep eq).elim (fun z=>Ab I n (A:=A.in1) (by lia) (by show A.units+1+n<cLine;lia) dp dq (by simpa using rp) (by simpa using rq) z) (fun z=>uU (A:=A.in1) I (by show A.units+1<cLine;lia) dp dq (by simpa using rp) (by simpa using rq) z)
theorem Bh{A:Around}(I:Inv X pins σ H s){d e:Dt}{a b:Addr}(hq:(Vg d).isSome=true)(hu:A.units+60<cLine)(hn:lB d<=50)(hx:Den X.K H (.ref a) d)(hy:Den X.K H (.ref b) e)(sh:shD d e=true):RcAt A s (.ref a) (.ref b) (eqD d e)/\RcNeAt A s (.ref a) (.ref b) (!eqD d e):=by
 cases d with
 |tup ds=>
  cases e with
  |tup es=>
   cases hx with
   |tup h hs=>
    cases hy with
    |tup h' hs'=>
     obtain⟨us,r,ht,_⟩:=I.tuple (SqT.of h)
     obtain⟨ws,r',ht',_⟩:=I.tuple (SqT.of h')
     have sh':rF ds es=true:=by unfold shD at sh;exact sh
     have hn':iy ds<=49:=by unfold lB at hn;lia
     rw[show eqD (.tup ds) (.tup es)=oZ ds es from by unfold eqD;rfl,<- Ad]
     have l1:us.toArray.size=ds.length:=by rw[List.size_toArray,<- r.length,hs.length]
     have l2:ws.toArray.size=es.length:=by rw[List.size_toArray,<- r'.length,hs'.length]
     rw[<- l1,<- l2]
     exact⟨RcAt.tuples ht ht' (by lia) (nA I hn' (by lia) hs hs' r r' sh'),RcNeAt.tuples ht ht' (by lia) (nA I hn' (by lia) hs hs' r r' sh')⟩
  |_=>unfold shD at sh;cases sh
 |lst ds=>
  cases e with
  |lst es=>
   cases hx with
   |lst h hs=>
    cases hy with
    |lst h' hs'=>
     obtain⟨us,r,ht,_⟩:=I.list h
     obtain⟨ws,r',ht',_⟩:=I.list h'
     have sh':rF ds es=true:=by unfold shD at sh;exact sh
     have hn':iy ds<=49:=by unfold lB at hn;lia
     rw[show eqD (.lst ds) (.lst es)=oZ ds es from by unfold eqD;rfl]
     have l1:us.toArray.size=ds.length:=by rw[List.size_toArray,<- r.length,hs.length]
     have l2:ws.toArray.size=es.length:=by rw[List.size_toArray,<- r'.length,hs'.length]
     by_cases hl:ds.length=es.length
     ·rw[<- pq hl,<- l1]
      exact⟨RcAt.lists ht.isList ht'.isList (by rw[l1,l2];exact hl) (by lia) (nA I hn' (by lia) hs hs' r r' sh'),RcNeAt.lists ht.isList ht'.isList (by rw[l1,l2];exact hl) (by lia) (nA I hn' (by lia) hs hs' r r' sh')⟩
     ·rw[pA hl]
      exact⟨RcAt.lists_lengths ht.isList ht'.isList (by rw[l1,l2];simpa using hl) (by lia),RcNeAt.lists_lengths ht.isList ht'.isList (by rw[l1,l2];simpa using hl) (by lia)⟩
  |_=>unfold shD at sh;cases sh
 |_=>cases hq
def QG(K:PySem.W.Frag)(neg:Bool):R2:=fun x y H Q=>∃ d e,(Vg d).isSome=true/\Den K H x d/\Den K H y e/\shD d e=true/\lB d<=50/\Q (.bl (if neg then !eqD d e else eqD d e)) H
theorem Den.Mp{K:PySem.W.Frag}{x:V}{d e:Dt}{y:V}(hq:(Vg d).isSome=true)(hx:Den K H x d)(hy:Den K H y e)(sh:shD d e=true):∃ a b,x=.ref a/\y=.ref b:=by
 cases hx with
 |@tup a _ _ _ _=>
  cases hy with
  |@tup b _ _ _ _=>exact⟨a,b,rfl,rfl⟩
  |_=>unfold shD at sh;cases sh
 |@lst a _ _ _ _=>
  cases hy with
  |@lst b _ _ _ _=>exact⟨a,b,rfl,rfl⟩
  |_=>unfold shD at sh;cases sh
 |_=>cases hq
theorem U7(hu:X.A.units+60<cLine):OpR X (compareOp .Eq) (QG X.K false):=by
 intro pins s σ H x y v u Q I rx ry h
 obtain⟨d,e,hq,hx,hy,sh,hn,q⟩:=h
 obtain⟨a,b,rfl,rfl⟩:=Den.Mp hq hx hy sh
 cases rx
 cases ry
 exact(Bh I hq hu hn hx hy sh).1 _ _ _ _ ⟨.bl _,H,I,rfl,q⟩
theorem Ub(hu:X.A.units+60<cLine):OpR X (compareOp .NotEq) (QG X.K true):=by
 intro pins s σ H x y v u Q I rx ry h
 obtain⟨d,e,hq,hx,hy,sh,hn,q⟩:=h
 obtain⟨a,b,rfl,rfl⟩:=Den.Mp hq hx hy sh
 cases rx
 cases ry
 exact(Bh I hq hu hn hx hy sh).2 _ _ _ _ ⟨.bl _,H,I,rfl,q⟩
def DW(K:PySem.W.Frag)(neg:Bool):R2:=fun x y H Q=>∃ d es p,y=.ref p/\Den K H x d/\(Den K H y (.lst es)\/Den K H y (.tup es))/\(∀ e∈es,shD e d=true/\lB e<=50)/\Q (.bl (if neg then !(es.any fun e=>eqD e d) else es.any fun e=>eqD e d)) H
theorem Ey{K:PySem.W.Frag}{d:Dt}{P:Value->Bool}:∀ {xs:List V} {es:List Dt} {us:List Value},aN K H xs es->Vals xs us->(∀(j:Nat)(u:Value)(e:Dt),us[j]?=some u->es[j]?=some e->P u=eqD e d)->us.any P=es.any fun e=>eqD e d
 |_,_,_,.nil,.nil,_=>rfl
 |_,_,_,.cons _ t,.cons _ r,h=>by
  rw[List.any_cons,List.any_cons,h 0 _ _ rfl rfl,Ey t r fun j u e h1 h2=>h (j+1) u e (by simpa using h1) (by simpa using h2)]
open Classical in
theorem yQ(I:Inv X pins σ H s){x:V}{v:Value}{d:Dt}{ys:List V}{es:List Dt}{us:List Value}{A:Around}(hu:A.units+60<cLine)(rx:RelV x v)(hx:Den X.K H x d)(hs:aN X.K H ys es)(r:Vals ys us)(hsh:∀ e∈es,shD e d=true/\lB e<=50) :
  ∃ P:Value->Bool,(∀ u∈us,EqAt A s u v (P u))/\us.any P=es.any fun e=>eqD e d:=by
 have key:∀(j:Nat)(u:Value)(e:Dt),us[j]?=some u->es[j]?=some e->EqAt A s u v (eqD e d)/\∃ y,RelV y u/\Den X.K H y e:=fun j u e h1 h2=>by
  obtain⟨y,h3,dy⟩:=hs.get' h2
  obtain⟨u',h4,ry⟩:=r.get h3
  rw[h1] at h4;cases h4
  obtain⟨a1,a2⟩:=hsh e (List.mem_of_getElem? h2)
  exact⟨Ab I 50 a2 (by lia) dy hx ry rx a1,y,ry,dy⟩
 have one:∀(j:Nat)(u:Value)(e:Dt),us[j]?=some u->es[j]?=some e->decide (∃ y e,RelV y u/\Den X.K H y e/\eqD e d=true)=eqD e d:=fun j u e h1 h2=>by
  obtain⟨_,y,ry,dy⟩:=key j u e h1 h2
  cases q:eqD e d with
  |true=>exact decide_eq_true ⟨y,_,ry,dy,q⟩
  |false=>
   refine decide_eq_false fun⟨y',e',ry',dy',q'⟩=>?_
   have ey:=ry.inj ry'
   subst ey
   rw[Den.inj I dy' dy,q] at q'
   cases q'
 refine⟨fun u=>decide (∃ y e,RelV y u/\Den X.K H y e/\eqD e d=true),fun u hu'=>?_,Ey hs r one⟩
 obtain⟨j,hj⟩:=List.getElem?_of_mem hu'
 have hl:j<es.length:=by rw[<- hs.length,r.length];exact(List.getElem?_eq_some_iff.mp hj).1
 have e1:=(key j u es[j] hj (by simp[hl])).1
 show EqAt A s u v (decide _)
 rw[one j u es[j] hj (by simp[hl])]
 exact e1
theorem U9(hu:X.A.units+61<cLine):OpR X (compareOp .In) (DW X.K false):=by
 intro pins s σ H x y v u Q I rx ry h
 obtain⟨d,es,p,rfl,hx,hy,hsh,q⟩:=h
 cases ry
 rcases hy with hy|hy
 ·cases hy with
  |lst h' hs=>
   obtain⟨us,r,ht,_⟩:=I.list h'
   obtain⟨P,hP,e⟩:=yQ (A:=X.A.in1) I (by show X.A.units+1+60<cLine;omega) rx hx hs r hsh
   exact in_listAt P ht.isList (fun z hz=>hP z (by simpa using hz)) ⟨.bl _,H,I,by rw[<- e];simp<;>rfl,q⟩
 ·cases hy with
  |tup h' hs=>
   obtain⟨us,r,ht,_⟩:=I.tuple (SqT.of h')
   obtain⟨P,hP,e⟩:=yQ (A:=X.A.in1) I (by show X.A.units+1+60<cLine;omega) rx hx hs r hsh
   exact in_tupleAt P ht (fun z hz=>hP z (by simpa using hz)) ⟨.bl _,H,I,by rw[<- e];simp<;>rfl,q⟩
theorem IV(hu:X.A.units+61<cLine):OpR X (compareOp .NotIn) (DW X.K true):=by
 intro pins s σ H x y v u Q I rx ry h
 obtain⟨d,es,p,rfl,hx,hy,hsh,q⟩:=h
 cases ry
 rcases hy with hy|hy
 ·cases hy with
  |lst h' hs=>
   obtain⟨us,r,ht,_⟩:=I.list h'
   obtain⟨P,hP,e⟩:=yQ (A:=X.A.in1) I (by show X.A.units+1+60<cLine;omega) rx hx hs r hsh
   exact notIn_listAt P ht.isList (fun z hz=>hP z (by simpa using hz)) ⟨.bl _,H,I,by rw[<- e];simp<;>rfl,q⟩
 ·cases hy with
  |tup h' hs=>
   obtain⟨us,r,ht,_⟩:=I.tuple (SqT.of h')
   obtain⟨P,hP,e⟩:=yQ (A:=X.A.in1) I (by show X.A.units+1+60<cLine;omega) rx hx hs r hsh
   exact notIn_tupleAt P ht (fun z hz=>hP z (by simpa using hz)) ⟨.bl _,H,I,by rw[<- e];simp<;>rfl,q⟩
end
end L2
namespace L2
open PySem PySem.Spec PyProof.Rows
structure Df(P:Program)(w:World)(K:PySem.W.Frag)(mg:Str->Option Value)(base:Heap)(k:Nat)(x:Str)(ps:List Str)(sp:Sp):Prop where
 ex:∃ f fd,cu P w K mg base (CXE P w) k f fd ps sp/\mg x=some (.ref f)/\PySem.W.keepIn K (.ref f)=true/\Binds K fd ps []
theorem aU{X:Cx}:Passes (CXE X.prog X.w) X E0:=by
 intro pins σ H s e s' I h
 obtain⟨ea,C,H',_,_,_,_,_,_,z⟩:=h
 exact z.elim
section
variable{P:Program}{w:World}{K:PySem.W.Frag}{mg:Str->Option Value}{base:Heap}
theorem Fun.okE{x qual:Str}{st:Stmt}{f:Addr}{fd:FuncData}{N ps:List Str}{k:Nat}{sp:Sp}(F:Fun K x qual st f fd)(S:aW N ps (aG st))(len:∀ vs H Q E,sp vs H Q E->vs.length=ps.length)
  (hbody:∀(cdv:Value)(A:Around)(outer:List Env)(s:Shared)(H:Hp)(vs:List V)(Q:VK)(E:XK),dX k (A.deeper (envOfC qual (aG st) s.heap.objs.size f cdv))->sp vs H Q E ->
   ∃ t,PSs (lR (CXE P w) P w K mg base N qual (aG st) f cdv A outer s H E) (dB st) t/\t { nx:=fun _ H'=>Q .non H',rt:=Q } (start N vs) H):cu P w K mg base (CXE P w) (k+1) f fd ps sp:=by
 obtain⟨oc,od,kV,doc,pm,an,cdv,ct,osl,rfl,lk,hcd⟩:=F.ex
 exact W0 lk hcd S len fun A outer s H vs Q E hr hsp=>hbody cdv A outer s H vs Q E hr hsp
theorem Fun.ok0{x qual:Str}{st:Stmt}{f:Addr}{fd:FuncData}{N ps:List Str}{k:Nat}{sp:Sp}(F:Fun K x qual st f fd)(S:aW N ps (aG st))(len:∀ vs H Q E,sp vs H Q E->vs.length=ps.length)
  (hbody:∀(cdv:Value)(A:Around)(outer:List Env)(s:Shared)(H:Hp)(vs:List V)(Q:VK)(E:XK),dX k (A.deeper (envOfC qual (aG st) s.heap.objs.size f cdv))->sp vs H Q E ->
   ∃ t,PSs (lR (CXE P w) P w K mg base N qual (aG st) f cdv A outer s H E).nox (dB st) t/\t { nx:=fun _ H'=>Q .non H',rt:=Q } (start N vs) H):cu P w K mg base (CXE P w) (k+1) f fd ps sp:=
 F.okE S len fun cdv A outer s H vs Q E hr hsp=>let ⟨t,h,q⟩:=hbody cdv A outer s H vs Q E hr hsp;⟨t,h.nox,q⟩
end
theorem PS.nox{X:Cx}{st:Stmt}{t:TS}(h:PS X.nox st t):PS X st t:=fun pins s σ H D I hw=>
 wpAny_mono (h pins s σ H D (I.wish _) hw) (fun _ _ q=>SP.iw q) fun _ _ z=>False.elim z
section
variable{X:Cx}{k j:Nat}{ps:List Str}{sp:Sp}{E:XK}{x:Str}{p pos:Pos}{e:Expr}{es:List Expr}{t:TA}
theorem Uj(D:Df X.prog X.w X.K X.mg X.base k x ps sp)(hr:dX j X.A)(hg:Gl X x)(hx:Passes (CXE X.prog X.w) X E)(ha:PA X (e::es) t)(hk:k<=j:=by decide)
  (hdb:(x==("__debug__" : Str))=false:=by decide) (he:starEach (e::es) X.env=(false,eval e X.env)::starEach es X.env:=by rfl) (hpl:(backTo pos (starEach es X.env)).any (·.1)=false:=by rfl) :
  PE X (.Call (.Name x p) (e::es) [] pos) (GX sp [] E t):=by
 obtain⟨f,fd,F,hm,kp,hb⟩:=D.ex
 exact Qa F (hr.mono hk) hg hm kp hb .nil hx ha hdb he hpl
theorem Qh(D:Df X.prog X.w X.K X.mg X.base k x ps sp)(hr:dX j X.A)(hg:Gl X x)(ha:PA X.nox (e::es) t)(hk:k<=j:=by decide)
  (hdb:(x==("__debug__" : Str))=false:=by decide) (he:starEach (e::es) X.env=(false,eval e X.env)::starEach es X.env:=by rfl) (hpl:(backTo pos (starEach es X.env)).any (·.1)=false:=by rfl) :
  PEX X (.Call (.Name x p) (e::es) [] pos) (zx sp [] t):=by
 obtain⟨f,fd,F,hm,kp,hb⟩:=D.ex
 exact Ly F (hr.mono hk) hg hm kp hb .nil ha hdb he hpl
end
section
variable{X:Cx}{x:Str}{pos:Pos}
theorem Qe{i:Int}(h:∃ t,X.mg x=some (.int i t))(hg:Gl X x) (hd:(x==("__debug__" : Str))=false:=by decide):PE X (.Name x pos) (tC (.int i)):=by
 obtain⟨t,h⟩:=h
 exact yW hg h ⟨t,rfl⟩ hd
theorem Qf{z:Str}(h:∃ t,X.mg x=some (.str z t))(hg:Gl X x) (hd:(x==("__debug__" : Str))=false:=by decide):PE X (.Name x pos) (tC (.str z)):=by
 obtain⟨t,h⟩:=h
 exact yW hg h ⟨t,rfl⟩ hd
end
section
variable{X:Cx}
def Bd:R2:=fun x y H Q=>match x,y with
 |.int i,.int j=>Q (.int (i+j)) H
 |.str i,.str j=>i.length+j.length<=sizeLine/\Q (.str (i++j)) H
 |.ref l,.ref b=>∃ xs zs,H l=some (.lst xs)/\H b=some (.lst zs)/\xs.length+zs.length<=sizeLine/\∀ p,H p=none->Q (.ref p) (upd H p (.lst (xs++zs)))
 |_,_=>False
theorem aY:OpR X (binaryOp .Add) Bd:=by
 intro pins s σ H x y v u Q I rx ry h
 unfold Bd at h
 split at h
 ·exact U5 pins s σ H _ _ v u Q I rx ry ⟨_,_,rfl,rfl,h⟩
 ·exact DP pins s σ H _ _ v u Q I rx ry ⟨_,_,rfl,rfl,h.1,h.2⟩
 ·obtain⟨xs,zs,h1,h2,h3,h4⟩:=h
  exact U6 pins s σ H _ _ v u Q I rx ry ⟨_,_,xs,zs,rfl,rfl,h1,h2,h3,h4⟩
 ·exact h.elim
def Rw:R2:=fun x y H Q=>match x,y with
 |.int i,.int j=>O6 i j/\Q (.int (i*j)) H
 |.str z,.int n=>z.length<=1000 /\ -1000<=n/\n<=1000/\Q (.str (V9 z n)) H
 |.ref l,.int k=>∃ xs,H l=some (.lst xs) /\ -(2^63)<=k/\k<2^63/\xs.length*k.toNat<=sizeLine/\∀ p,H p=none->Q (.ref p) (upd H p (.lst (List.replicate k.toNat xs).flatten))
 |_,_=>False
theorem pI:OpR X (binaryOp .Mult) Rw:=by
 intro pins s σ H x y v u Q I rx ry h
 unfold Rw at h
 split at h
 ·exact Ua pins s σ H _ _ v u Q I rx ry ⟨_,_,rfl,rfl,h.1,h.2⟩
 ·exact DQ pins s σ H _ _ v u Q I rx ry ⟨_,_,rfl,rfl,h.1,h.2.1,h.2.2.1,h.2.2.2⟩
 ·obtain⟨xs,h1,h2,h3,h4,h5⟩:=h
  exact Uc pins s σ H _ _ v u Q I rx ry ⟨_,_,xs,rfl,rfl,h1,h2,h3,h4,h5⟩
 ·exact h.elim
end
end L2
namespace L2
open PySem PySem.Spec PyProof.Rows
theorem Rc{K:PySem.W.Frag}{x t c:Value}{Hp':Heap->Prop}(ty:∀(M:Model) (h:Heap),Hp' h->PySem.W.Looks M h (typeOf x) t)(e:PySem.W.kitOne K t c=some true):Answers (fun s=>K.In s.heap/\Hp' s.heap) x c true:=by
 intro dep tk prog w A R s hs
 obtain⟨hh,g,d,tt,os⟩:=s
 obtain⟨⟨kin,p⟩,hq⟩:=hs
 have look:=ty (model prog w) hh p
 unfold PySem.W.kitOne at e
 unfold Builtin.«isinstance.nested»
 refine wpAny_bind (PySem.W.Looks.at look ?_)
 cases q:(t==c) with
 |true=>
  rw[if_pos rfl]
  exact wpAny_bind (wpAny_rule (wpAny_pure (hq tt)))
 |false=>
  rw[q,if_neg Bool.false_ne_true] at e
  rw[if_neg Bool.false_ne_true]
  obtain⟨l1,l2,l3⟩:=PySem.W.kit_cls (M:=model prog w) kin e
  have l4:PySem.W.Looks (model prog w) hh (isInstance x c) true:=PySem.W.Looks.andThen look l3
  refine wpAny_bind (PySem.W.Looks.at l1 ?_)
  rw[if_pos (by decide)]
  k_delta "plainIsInstance"
  refine wpAny_bind (wpAny_bind (PySem.W.Looks.at l2 ?_))
  simp only[Bool.not_true,Bool.false_eq_true,if_false]
  exact wpAny_bind (PySem.W.Looks.at l4 (wpAny_pure (wpAny_pure (hq tt))))
def S9:V->Option Value
 |.ty n=>some (.type n)
 |.ref a=>some (.ref a)
 |_=>none
theorem Fo{c:V}{cv u:Value}(h:S9 c=some cv)(r:RelV c u):u=cv:=by
 cases c with
 |ty n=>cases h;exact r
 |ref a=>cases h;exact r
 |_=>cases h
section
variable{X:Cx}
def WD(K:PySem.W.Frag):List V->Hp->VK->Prop:=fun xs H Q=>∃ x c cv,xs=[x,c]/\S9 c=some cv /\
 ((∃ t b,qx K H x t/\PySem.W.kitOne K t cv=some b/\Q (.bl b) H)\/(∃ ea C,x=.ref ea/\H ea=some (Ce ea C)/\PySem.W.kitOne K (.ref C) cv=some true/\Q (.bl true) H))
theorem JK:cA X (.builtin "isinstance") (WD X.K):=by
 intro pins s σ H xs us Q I r h
 obtain⟨x,c,cv,rfl,hc,h⟩:=h
 obtain⟨u,u',rfl,ru,rc⟩:=vals2 r
 have e:=Fo hc rc
 subst e
 rcases h with⟨t,b,ty,hk,q⟩|⟨ea,C,rfl,hE,hk,q⟩
 ·exact I9 I ru ty hk fun tk=>⟨.bl b,H,I.tok tk,rfl,q⟩
 ·cases ru
  obtain⟨⟨ob,e1,e2⟩,_,_⟩:=(show cM X.prog X.w H s.heap ea (Ce ea C) from I.hok ea _ hE)
  refine call_isinstance (S:=fun _ R s'=>(X.K.In s'.heap/\(fun h:Heap=>∃ o,h.get? ea=some o/\o.cls=.ref C) s'.heap)/\∀ tk,R (.ok (.ret (.bool true))) { s' with toks:=tk })
   (fun prog w A R s' hs=>isinstance_outer (Rc (K:=X.K) (t:=.ref C) (Hp':=fun h=>∃ o,h.get? ea=some o/\o.cls=.ref C) (fun M h p=>?_) hk 0 _ prog w A R s' hs) (by intro z;cases z)) ⟨⟨I.kIn,⟨ob,e1,e2⟩⟩,fun tk=>⟨.bl true,H,I.tok tk,rfl,q⟩⟩
  obtain⟨o,h1,h2⟩:=p
  exact h2▸(PySem.W.Looks.ld h1).andThen .now
end
end L2
namespace L2
open PySem PySem.Spec PyProof.Rows
theorem Fp{J:It}{n:Nat}{item:Nat->V}{tc:TT}{te:TE}{σ:St}{fin:List V->Hp->Prop}{H:Hp}(R:Nat->List V->Hp->Prop)(hn:n<=sizeLine)
  (hgo:∀ i ys H,i<n->R i ys H->J.go i H) (hy:∀ i ys H v H',i<n->R i ys H->J.yld i H v H'->v=item i/\H'=H) (hstop:∀ ys H,R n ys H->J.stop n H)
  (hl:∀ i ys H,i<=n->R i ys H->ys.length<=i) (h0:R 0 [] H)
  (hs:∀ i ys H,i<n->R i ys H->∀ G:List V->Hp->Prop,(∀ ys' H',R (i+1) ys' H'->G ys' H')->tc (some (item i)::σ) H fun b H2=>if b=true then te (some (item i)::σ) H2 fun y H3=>G (ys++[y]) H3 else G ys H2)
  (hd:∀ ys H,R n ys H->fin ys H):∃ W:Nat->Nat->List V->Hp->Prop,(∃ m,W 0 m [] H)/\lD J tc te σ fin W:=by
 refine⟨fun i m ys H=>m=n-i/\i<=n/\R i ys H,⟨n,by lia,Nat.zero_le _,h0⟩,?_⟩
 rintro i m ys H ⟨rfl,hi,r⟩
 refine⟨Nat.le_trans (hl i ys H hi r) (Nat.le_trans hi hn),?_⟩
 by_cases hlt:i<n
 ·refine .inr ⟨hgo i ys H hlt r,fun v H' y=>?_⟩
  obtain⟨rfl,rfl⟩:=hy i ys H v H' hlt r y
  exact hs i ys _ hlt r (fun ys' H2=>∃ m',m'<n-i/\(m'=n-(i+1)/\i+1<=n/\R (i+1) ys' H2)) fun ys' H2 r'=>⟨n-(i+1),by lia,rfl,hlt,r'⟩
 ·have e:i=n:=by lia
  subst e
  exact .inl ⟨hstop ys H r,hd ys H r⟩
theorem Same.put{H:Hp}{p:Addr}{o:HO}(h:H p=none):Same H (upd H p o):=fun b u e=>by
 rw[aO (bG e h)];exact e
theorem Same.and{H H':Hp}{p:Addr}{o:HO}(s:Same H H')(h:H' p=none):Same H (L2.upd H' p o):=s.trans (Same.put h)
theorem small{n:Nat}(h:n<=10000):n<=sizeLine:=Nat.le_trans h (by rw[sizeLine_eq];decide)
theorem Fb{ns:List Int}{i:Int}(h0:0<=i)(h1:i<ns.length):∃ v,atI (ns.map V.int) i=some (V.int v):=by
 obtain⟨k,rfl⟩:=Int.eq_ofNat_of_zero_le h0
 have hk:k<ns.length:=by lia
 exact⟨ns[k],eZ (by simp[hk])⟩
theorem ou{α:Type}{xs:List α}{i:Int}(h0:0<=i)(h1:i<xs.length):∃ v,v∈xs/\atI xs i=some v:=by
 obtain⟨k,rfl⟩:=Int.eq_ofNat_of_zero_le h0
 have hk:k<xs.length:=by lia
 exact⟨xs[k],List.getElem_mem hk,eZ (by simp[hk])⟩
theorem oG{A:Around}{k:Nat}(hr:dX k A):A.units+60<cLine:=Nat.lt_of_le_of_lt (Nat.add_le_add_left (by decide:60<=64) _) hr.units
theorem tE{A:Around}{k:Nat}(hr:dX k A):A.units+61<cLine:=Nat.lt_of_le_of_lt (Nat.add_le_add_left (by decide:61<=64) _) hr.units
end L2
namespace L2
open PySem PySem.Spec PyProof.Rows
def notStar:Expr->Bool
 |.Starred _ _=>false
 |_=>true
theorem jd{env:Env}{e:Expr}{es:List Expr}(h:notStar e=true):starEach (e::es) env=(false,eval e env)::starEach es env:=by
 cases e<;>first|rfl|cases h
theorem sG{env:Env}{pos:Pos}:∀ {es:List Expr},es.all notStar=true->(backTo pos (starEach es env)).any (·.1)=false
 |[],_=>rfl
 |e::es,h=>by
  rw[List.all_cons,Bool.and_eq_true] at h
  rw[jd h.1]
  show(false||(backTo pos (starEach es env)).any (·.1))=false
  rw[sG h.2];rfl
section
variable{X:Cx}{k j:Nat}{ps:List Str}{sp:Sp}{E:XK}{x:Str}{p pos:Pos}{e:Expr}{es:List Expr}{te:TE}{t:TA}{id T:String}{r:List V->Hp->VK->Prop}{C f:Addr}{fd:FuncData}
theorem V4(D:Df X.prog X.w X.K X.mg X.base k x ps sp)(hr:dX j X.A)(hg:Gl X x)(hx:Passes (CXE X.prog X.w) X E)(ha:PA X (e::es) t)(hk:k<=j:=by decide)(h1:notStar e=true:=by rfl)(h2:es.all notStar=true:=by rfl)
  (hdb:(x==("__debug__" : Str))=false:=by decide):PE X (.Call (.Name x p) (e::es) [] pos) (GX sp [] E t):=Uj D hr hg hx ha hk hdb (jd h1) (sG h2)
theorem QF(D:Df X.prog X.w X.K X.mg X.base k x ps sp)(hr:dX j X.A)(hg:Gl X x)(ha:PA X.nox (e::es) t)(hk:k<=j:=by decide)(h1:notStar e=true:=by rfl)(h2:es.all notStar=true:=by rfl)
  (hdb:(x==("__debug__" : Str))=false:=by decide):PEX X (.Call (.Name x p) (e::es) [] pos) (zx sp [] t):=Qh D hr hg ha hk hdb (jd h1) (sG h2)
theorem M8(hc:cA X (.builtin id) r)(hg:Gl X x)(hm:X.mg x=none)(hv:bootBuiltins x=some (.builtin id))(ha:PA X (e::es) t)(h1:notStar e=true:=by rfl)(h2:es.all notStar=true:=by rfl) (hn:x ≠ "__name__":=by decide)
  (hdb:(x==("__debug__" : Str))=false:=by decide):PE X (.Call (.Name x p) (e::es) [] pos) (tCB r t):=Lp hc hg hm hv ha hn hdb (jd h1) (sG h2)
theorem Je(hc:cA X (.type T) r)(hg:Gl X x)(hm:X.mg x=none)(hv:bootBuiltins x=some (.type T))(ha:PA X (e::es) t)(h1:notStar e=true:=by rfl)(h2:es.all notStar=true:=by rfl) (hn:x ≠ "__name__":=by decide)
  (hdb:(x==("__debug__" : Str))=false:=by decide):PE X (.Call (.Name x p) (e::es) [] pos) (tCB r t):=J0 hc hg hm hv ha hn hdb (jd h1) (sG h2)
end
structure Md(P:Program)(w:World)(K:PySem.W.Frag)(mg:Str->Option Value)(base:Heap)(k:Nat)(x:Str)(ps:List Str)(C:Addr)(sp:Sp):Prop where
 ex:∃ f fd,Mk K C f/\cu P w K mg base (CXE P w) k f fd ps sp/\mg x=some (.ref C)/\Binds K fd ps []
section
variable{X:Cx}{k j:Nat}{ps:List Str}{sp:Sp}{E:XK}{x:Str}{p pos:Pos}{e:Expr}{es:List Expr}{te:TE}{t:TA}{C:Addr}
theorem QD(D:Md X.prog X.w X.K X.mg X.base k x ps C sp)(hr:dX j X.A)(hg:Gl X x)(hx:Passes (CXE X.prog X.w) X E)(ha:PA X (e::es) t)(hk:k+1<=j:=by decide)(h1:notStar e=true:=by rfl)(h2:es.all notStar=true:=by rfl)
  (hdb:(x==("__debug__" : Str))=false:=by decide):PE X (.Call (.Name x p) (e::es) [] pos) (Ny C sp [] E t):=by
 obtain⟨f,fd,M,F,hm,hb⟩:=D.ex
 exact Qg M F (hr.mono hk) hg hm hb .nil hx ha hdb (jd h1) (sG h2)
end
end L2
namespace L2
open PySem PySem.Spec PyProof.Rows
structure RE(X:Cx)(e:Expr)(t:TE):Prop where ok:PE X e t
structure RT(X:Cx)(e:Expr)(t:TT):Prop where ok:PT X e t
structure RB(X:Cx)(e:Expr)(t:TT):Prop where ok:PW X e t
structure RA(X:Cx)(es:List Expr)(t:TA):Prop where ok:PA X es t
structure RS(X:Cx)(st:Stmt)(t:TS):Prop where ok:PS X st t
structure RSs(X:Cx)(st:List Stmt)(t:TS):Prop where ok:PSs X st t
structure RI(X:Cx)(tg iter:Expr)(t:TI):Prop where ok:PI X tg iter t
structure RG(X:Cx)(tg:Expr)(t:TG):Prop where ok:PG X tg t
structure RGs(X:Cx)(ts:List Expr)(t:TGs):Prop where ok:PGs X ts t
structure RO(X:Cx)(e:Option Expr)(t:TO):Prop where ok:PO X e t
structure RIf(X:Cx)(ifs:List Expr)(t:TT):Prop where ok:zG X ifs t
structure REX(X:Cx)(e:Expr)(t:TEX):Prop where ok:PEX X e t
structure RSX(X:Cx)(st:List Stmt)(t:TSX):Prop where ok:PSX X st t
structure RH(X:Cx)(hs:List ExceptHandler)(th:Addr->TS):Prop where ok:PH X hs th
def tX:Expr->Bool
 |.ListComp _ _ _ _=>false
 |.SetComp _ _ _ _=>false
 |.DictComp _ _ _ _ _=>false
 |_=>true
theorem Nr{e:Expr}{t:Option Expr}{n:Nat}{env:Env}(h:tX e=true):swapsWith e t n env=pure false:=by
 cases e<;>first|rfl|cases h
def plainT:Expr->Bool
 |.Call _ _ _ _=>true
 |.Name _ _=>true
 |.Constant _ _ _=>true
 |.Attribute _ _ _=>true
 |.Subscript _ _ _=>true
 |_=>false
theorem Wv{e:Expr}{env:Env}(h:plainT e=true):∀ whole,isTrue e env whole=(do let v <- whole;standAt e.pos;holding [v] (truthy v)):=by
 intro whole
 cases e<;>first|rfl|cases h
def Gj:Expr->Bool
 |.Name _ _=>true
 |.Constant _ _ _=>true
 |.BinOp _ _ _ _=>true
 |.UnaryOp _ _ _=>true
 |.Call _ _ _ _=>true
 |.Subscript _ _ _=>true
 |.Attribute _ _ _=>true
 |_=>false
theorem W7{b:Expr}(h:Gj b=true):Ew b:=by
 intro o i
 cases b<;>first|rfl|cases h
section
variable{X:Cx}{a b c e o:Expr}{es rest:List Expr}{ta tb tc te to:TE}{t:TA}{tA tB':TT}{pos p:Pos}{i:Nat}{x:Str}
theorem rv(i:Nat)(hN:X.N[i]?=some x:=by rfl)(hv:Vis X.env.scope x:=by first|exact Or.inl rfl|exact Or.inr (Or.inl rfl)|exact Or.inr (Or.inr rfl)) (hd:(x==("__debug__" : Str))=false:=by decide)
  (hcd:(x==("__classdict__" : Str))=false:=by decide):RE X (.Name x pos) (Xg i):=⟨Us hN hv hd hcd⟩
theorem aF {i j pos}:RE X (.Constant (.int i) j pos) (tC (.int i)):=⟨Ul⟩
theorem vG {b j pos}:RE X (.Constant (.bool b) j pos) (tC (.bl b)):=⟨Wm⟩
theorem gU {z j pos}:RE X (.Constant (.str z) j pos) (tC (.str z)):=⟨Uq⟩
theorem DX{i:Int}(h:∃ t,X.mg x=some (.int i t))(hg:Gl X x) (hd:(x==("__debug__" : Str))=false:=by decide):RE X (.Name x pos) (tC (.int i)):=⟨Qe h hg hd⟩
theorem Mh{z:Str}(h:∃ t,X.mg x=some (.str z t))(hg:Gl X x) (hd:(x==("__debug__" : Str))=false:=by decide):RE X (.Name x pos) (tC (.str z)):=⟨Qf h hg hd⟩
theorem Rx{C:Addr}(hm:X.mg x=some (.ref C))(hg:Gl X x) (hd:(x==("__debug__" : Str))=false:=by decide):RE X (.Name x pos) (tC (.ref C)):=⟨yW hg hm rfl hd⟩
theorem V6{n:String}(hm:X.mg x=none)(hg:Gl X x)(hv:bootBuiltins x=some (.type n)) (hn:x ≠ "__name__":=by decide) (hd:(x==("__debug__" : Str))=false:=by decide):RE X (.Name x pos) (tC (.ty n)):=⟨Q9 hg hm hv rfl hn hd⟩
theorem bV{op:Operator}{r:R2}(ho:OpR X (binaryOp op) r)(ha:RE X a ta)(hb:RE X b tb):RE X (.BinOp a op b pos) (tOp r ta tb):=⟨Wq ho ha.ok hb.ok⟩
theorem Jf{op:UnaryOp}{r:V->Hp->VK->Prop}(ho:UnR X (unaryOp op) r)(ha:RE X a ta):RE X (.UnaryOp op a pos) (tUn r ta):=⟨Wr ho ha.ok⟩
theorem Bf{op:CmpOp}{r:R2}(ho:OpR X (compareOp op) r)(ha:RE X a ta)(hb:RE X b tb)(hm:behindInMarks op b=false):RE X (.Compare a [op] [b] pos) (tOp r ta tb):=⟨Qc ho ha.ok hb.ok hm⟩
theorem bD{op:CmpOp}{r:R2}(ho:OpR X (compareOp op) r)(ha:RE X a ta)(hb:RE X b tb)(hm:behindInMarks op b=false):RT X (.Compare a [op] [b] pos) (Hf (tOp r ta tb)):=⟨Qy ho ha.ok hb.ok hm⟩
theorem tY{op op':CmpOp}{r r':R2}(ho:OpR X (compareOp op) r)(ho':OpR X (compareOp op') r')(ha:RE X a ta)(hb:RE X b tb)(hc:RE X c tc)
  (hm:lastMarks [op,op'] [b,c]=false:=by with_unfolding_all rfl):RE X (.Compare a [op,op'] [b,c] pos) (zy r r' ta tb tc):=⟨Lq ho ho' ha.ok hb.ok hc.ok hm⟩
theorem pW{op op':CmpOp}{r r':R2}(ho:OpR X (compareOp op) r)(ho':OpR X (compareOp op') r')(ha:RE X a ta)(hb:RE X b tb)(hc:RE X c tc)
  (hm:lastMarks [op,op'] [b,c]=false:=by with_unfolding_all rfl):RT X (.Compare a [op,op'] [b,c] pos) (Hf (zy r r' ta tb tc)):=⟨M5 ho ho' ha.ok hb.ok hc.ok hm⟩
theorem j5(h:RE X e te)(he:plainT e=true:=by rfl):RT X e (L2.tB te):=⟨V1 h.ok (Wv he)⟩
theorem tZ(ha:RT X a tA):RB X (.BoolOp .And [a] pos) tA:=⟨pw_and1 ha.ok⟩
theorem Ml(ha:RT X a tA):RB X (.BoolOp .Or [a] pos) tA:=⟨pw_or1 ha.ok⟩
theorem yX(ha:RT X a tA)(hb:RB X (.BoolOp .And (b::rest) pos) tB'):RB X (.BoolOp .And (a::b::rest) pos) (Xa tA tB'):=⟨pw_and ha.ok hb.ok⟩
theorem Mj(ha:RT X a tA)(hb:RB X (.BoolOp .Or (b::rest) pos) tB'):RB X (.BoolOp .Or (a::b::rest) pos) (tOr tA tB'):=⟨pw_or ha.ok hb.ok⟩
theorem Jh(h:RB X e tA):RT X e tA:=⟨h.ok.pt⟩
theorem mq(ha:RT X a tA):RT X (.UnaryOp .Not a pos) (Xc tA):=⟨V0 ha.ok⟩
theorem Gx {op} {t:TE} (h:RE X a t):RE X (.BoolOp op [a] pos) t:=⟨Uo h.ok⟩
theorem Gw(ha:RE X a ta)(hb:RE X (.BoolOp .And (b::rest) pos) tb):RE X (.BoolOp .And (a::b::rest) pos) (RL ta tb):=⟨Uh ha.ok hb.ok⟩
theorem ak:RA X [] je:=⟨Ug⟩
theorem aj(ha:RE X e te)(hr:RA X es t)(hs:notStar e=true:=by rfl):RA X (e::es) (BL te t):=⟨Q7 ha.ok hr.ok (jd hs)⟩
theorem cZ {x1} (h:RA X es t):RE X (.Tuple es x1 pos) (Vn t):=⟨Ur h.ok⟩
theorem cQ(h:RA X es t):RE X (.List es pos) (Vl t):=⟨Um h.ok⟩
theorem bR{r:R2}(hr:IxR X r)(ha:RE X a ta)(hb:RE X b tb)(hs:Gj b=true:=by rfl):RE X (.Subscript a b pos) (tOp r ta tb):=⟨Wo hr ha.ok hb.ok (W7 hs)⟩
theorem pQ:RO X none GZ:=⟨Qp⟩
theorem pR(h:RE X e te):RO X (some e) (RQ te):=⟨Qq h.ok⟩
theorem pN{lo hi:Option Expr}{tl th:TO}{p2:Pos}{r:V->Option Int->Option Int->Hp->VK->Prop}(hr:SlR X r)(he:RE X e te)(hl:RO X lo tl)(hu:RO X hi th):RE X (.Subscript e (.Slice lo hi none p2) pos) (tSl r te tl th):=⟨Lx hr he.ok hl.ok hu.ok⟩
theorem X4{f:Str}(he:RE X e ta)(hb:attributeBase e f X.env (eval e X.env)=eval e X.env:=by rfl):RE X (.Attribute e f pos) (Vj X.K ta f):=⟨Uk he.ok hb⟩
variable{k j:Nat}{ps:List Str}{sp:Sp}{E:XK}{id T:String}{r:List V->Hp->VK->Prop}{C:Addr}
theorem aV(D:Df X.prog X.w X.K X.mg X.base k x ps sp)(hr:dX j X.A)(hg:Gl X x)(hx:Passes (CXE X.prog X.w) X E)(ha:RA X (e::es) t)(hk:k<=j:=by decide)(h1:notStar e=true:=by rfl)(h2:es.all notStar=true:=by rfl)
  (hdb:(x==("__debug__" : Str))=false:=by decide):RE X (.Call (.Name x p) (e::es) [] pos) (GX sp [] E t):=⟨V4 D hr hg hx ha.ok hk h1 h2 hdb⟩
theorem Vf(D:Df X.prog X.w X.K X.mg X.base k x ps sp)(hr:dX j X.A)(hg:Gl X x)(ha:RA X.nox (e::es) t)(hk:k<=j:=by decide)(h1:notStar e=true:=by rfl)(h2:es.all notStar=true:=by rfl)
  (hdb:(x==("__debug__" : Str))=false:=by decide):REX X (.Call (.Name x p) (e::es) [] pos) (zx sp [] t):=⟨QF D hr hg ha.ok hk h1 h2 hdb⟩
theorem V5(D:Md X.prog X.w X.K X.mg X.base k x ps C sp)(hr:dX j X.A)(hg:Gl X x)(hx:Passes (CXE X.prog X.w) X E)(ha:RA X (e::es) t)(hk:k+1<=j:=by decide)(h1:notStar e=true:=by rfl)(h2:es.all notStar=true:=by rfl)
  (hdb:(x==("__debug__" : Str))=false:=by decide):RE X (.Call (.Name x p) (e::es) [] pos) (Ny C sp [] E t):=⟨QD D hr hg hx ha.ok hk h1 h2 hdb⟩
theorem aK(hc:cA X (.builtin id) r)(hg:Gl X x)(hm:X.mg x=none)(hv:bootBuiltins x=some (.builtin id))(ha:RA X (e::es) t)(h1:notStar e=true:=by rfl)(h2:es.all notStar=true:=by rfl) (hn:x ≠ "__name__":=by decide)
  (hdb:(x==("__debug__" : Str))=false:=by decide):RE X (.Call (.Name x p) (e::es) [] pos) (tCB r t):=⟨M8 hc hg hm hv ha.ok h1 h2 hn hdb⟩
theorem iZ(hc:cA X (.type T) r)(hg:Gl X x)(hm:X.mg x=none)(hv:bootBuiltins x=some (.type T))(ha:RA X (e::es) t)(h1:notStar e=true:=by rfl)(h2:es.all notStar=true:=by rfl) (hn:x ≠ "__name__":=by decide)
  (hdb:(x==("__debug__" : Str))=false:=by decide):RE X (.Call (.Name x p) (e::es) [] pos) (tCB r t):=⟨Je hc hg hm hv ha.ok h1 h2 hn hdb⟩
theorem Kd{env:Env}{cpos:Pos}:∀ {es:List Expr},es.all notStar=true->(backTo cpos (starEach es env)).all (fun x=>!x.1)=true
 |[],_=>rfl
 |e::es,h=>by
  rw[List.all_cons,Bool.and_eq_true] at h
  rw[jd h.1]
  show((!false)&&(backTo cpos (starEach es env)).all (fun x=>!x.1))=true
  rw[Kd h.2];rfl
variable{name:Str}{apos cpos:Pos}{rm:V->List V->Hp->VK->Prop}
theorem Yv(pa:PlainAttrs T)(slot:Slot T name id) (hty:typeOf (.builtin id)=pure (.type "method_descriptor")) (hm:MtR X id rm) (ho:RE X o to) (ha:RA X (e::es) t) (h1:(e::es).all notStar=true:=by rfl)
  (hbase:attributeBase o name X.env (eval o X.env)=eval o X.env:=by rfl) (hlen:decide ((e::es).length<30)=true:=by rfl) (hline:(apos.endLine==cpos.line)=true:=by rfl):RE X (.Call (.Attribute o name apos) (e::es) [] cpos) (tBM X.K T rm to t):=by
 have h1':=h1
 rw[List.all_cons,Bool.and_eq_true] at h1'
 refine⟨Wn pa slot hty hm ho.ok ha.ok hbase ?_ hline (jd h1'.1) (sG h1'.2)⟩
 rw[Kd h1]
 have:decide ((e::es).length+([]:List Keyword).length+(if([]:List Keyword).isEmpty then 0 else 1)<30)=true:=by simpa using hlen
 rw[this];rfl
theorem X3(pa:PlainAttrs T)(slot:Slot T name id) (hty:typeOf (.builtin id)=pure (.type "method_descriptor")) (hm:MtR X id rm) (ho:RE X o to)
  (hbase:attributeBase o name X.env (eval o X.env)=eval o X.env:=by rfl) (hline:(apos.endLine==cpos.line)=true:=by rfl):RE X (.Call (.Attribute o name apos) [] [] cpos) (Vi X.K T rm to):=⟨Ui pa slot hty hm ho.ok hbase hline⟩
end
section
variable{X:Cx}{tg l:Expr}{te:TE}{ta:TA}{p pos:Pos}
theorem QM(hl:RE X l te):RI X tg l (FZ X.K te):=⟨Qm hl.ok⟩
theorem Vb(hl:RE X l te):RI X tg l (W6 te):=⟨Uw hl.ok⟩
theorem cP{a:Expr} (hg:Gl X "range") (hm:X.mg "range" = none) (ha:RA X [a] ta) (hs:notStar a=true:=by rfl):RI X tg (.Call (.Name "range" p) [a] [] pos) (Rn ta):=⟨J4 hg hm ha.ok (jd hs)⟩
theorem xW{a b:Expr} (hg:Gl X "range") (hm:X.mg "range" = none) (ha:RA X [a,b] ta) (hs:notStar a=true:=by rfl) (hs2:notStar b=true:=by rfl):RI X tg (.Call (.Name "range" p) [a,b] [] pos) (Ro ta):=
 ⟨Ja hg hm ha.ok (by rw[jd hs,jd hs2];rfl) (jd hs2)⟩
theorem jZ:RIf X [] Jp:=⟨Qn⟩
theorem cL{c:Expr}{t:TT}(h:RT X c t):RIf X [c] t:=⟨Qo h.ok⟩
theorem dW{x:Str}{px:Pos}{scope:Scope}{elt iter:Expr}{ifs:List Expr}{wi:TI}{tc:TT}(ok:qF scope X.env.scope X.N x=true)(hc:X.calm=true)(hi:RI X (.Name x px) iter wi)
  (hif:∀ s H ex,RIf (gB X x scope s H ex) ifs tc) (he:∀ s H ex,RE (gB X x scope s H ex) elt te) (hs:∀ v,foldedSetIterable iter X.env v=pure v:=by intro _;rfl) :
  RE X (.ListComp elt [⟨.Name x px,iter,ifs,0⟩] scope pos) (RM wi tc te):=⟨Qd ok hc hi.ok (fun s H ex=>(hif s H ex).ok) (fun s H ex=>(he s H ex).ok) hs⟩
end
section
variable{X:Cx}{st:Stmt}{rest body:List Stmt}{t u tb:TS}{e tg iter:Expr}{te:TE}{pos:Pos}{i:Nat}{x:Str}
theorem bU:RSs X [] RP:=⟨Qv⟩
theorem au(h1:RS X st t)(h2:RSs X rest u):RSs X (st::rest) (Vm t u):=⟨M4 h1.ok h2.ok⟩
theorem aC(h1:RS X st t):RSs X [st] t:=⟨Qw h1.ok⟩
theorem fP(he:RE X e te)(hs:tX e=true:=by rfl):RS X (.Expr e pos) (RN te):=⟨Qu he.ok (Nr hs)⟩
theorem bC(he:RE X e te):RS X (.Return (some e) pos) (Xe te):=⟨UJ he.ok⟩
theorem dM{c:Expr}{a b:List Stmt}{tc:TT}(hc:RT X c tc)(ha:RSs X a t)(hb:RSs X b u):RS X (.If c a b pos) (Xb tc t u):=⟨Ww hc.ok ha.ok hb.ok⟩
theorem aR(hN:X.N.Nodup)(hi:X.N[i]?=some x)(hx:Loc X.env.scope x)(hf:X.fn x=true\/X.env.scope.names.lookup x=some .local:=by first|exact .inl rfl|exact .inr rfl|assumption):RG X (.Name x pos) (xH i):=⟨Qi hN hi hx hf⟩
theorem iG:RGs X [] SX:=⟨Qj⟩
def Gk:Expr->Bool
 |.Name _ _=>true
 |.Subscript _ _ _=>true
 |_=>false
theorem Vy{es:List Expr}{env:Env}(h:Gk e=true):(assignEach (e::es) env).map (·.2)=assign e env::(assignEach es env).map (·.2):=by
 cases e<;>first|rfl|cases h
theorem bT{es:List Expr}{t:TG}{u:TGs}(h1:RG X e t)(h2:RGs X es u)(hs:Gk e=true:=by rfl):RGs X (e::es) (FQ t u):=⟨Lz h1.ok h2.ok (Vy hs)⟩
theorem jY{es:List Expr}{k:Nat}{t:TGs}{n:Nat}(hc:X.calm=true)(h:RGs X es t)(hn:(assignEach es X.env).length=n:=by rfl)(hst:(assignEach es X.env).findIdx? (·.1)=none:=by rfl):RG X (.Tuple es k pos) (T3 X.K n t):=⟨Uu hc h.ok hn hst⟩
theorem z9{o i:Expr}{to ti:TE}{t:O9}(ho:RE X o to)(hi:RE X i ti)(hs:O7 X t) (ha:∀ v,assign (.Subscript o i pos) X.env v=(do
   let ov <- holding [v] (eval o X.env)
   let iv <- holding [v,ov] (eval i X.env)
   standAt pos
   holding [v,ov,iv] (setItem ov iv v)
   release [v,ov,iv] []):=by intro _;rfl):RG X (.Subscript o i pos) (W2 to ti t):=⟨Ut ho.ok hi.ok hs ha⟩
theorem kh{g:TG}(he:RE X e te)(hg:RG X tg g)(hs:swapsWithSole [tg] e pos.line X.env=pure false:=by rfl)(hw:swappedStores [tg] e X.env=pure none:=by rfl)(h1:(assignEach [tg] X.env).map (·.2)=[assign tg X.env]:=by rfl):RS X (.Assign [tg] e pos) (R5 te g):=⟨Ux he.ok hg.ok hs hw h1⟩
theorem aL{pos':Pos}(hN:X.N.Nodup)(hi:X.N[i]?=some x)(hx:Loc X.env.scope x)(he:RE X e te)(hs:tX e=true:=by rfl)(hf:X.fn x=true\/X.env.scope.names.lookup x=some .local:=by first|exact .inl rfl|exact .inr rfl|assumption) :
  RS X (.Assign [.Name x pos'] e pos) (R5 te (xH i)):=⟨UL hN hi hx he.ok (Nr hs) hf⟩
theorem Mv{j:Nat}{y:Str}{a b:Expr}{ta:TA}{px py pt:Pos} {kt k2 pt2} (hc:X.calm=true) (hN:X.N.Nodup) (hi:X.N[i]?=some x) (hj:X.N[j]?=some y) (hij:i≠j)
  (hx:X.env.scope.names.lookup x=some .local) (hy:X.env.scope.names.lookup y=some .local) (ha:RA X [a,b] ta) (hw:swappedStores [.Tuple [.Name x px,.Name y py] kt pt] (.Tuple [a,b] k2 pt2) X.env=pure (some [x,y])) :
  RS X (.Assign [.Tuple [.Name x px,.Name y py] kt pt] (.Tuple [a,b] k2 pt2) pos) (Xd i j ta):=⟨UG hc hN hi hj hij hx hy ha.ok hw⟩
theorem bW{wi:TI}{g:TG}(hp:PassesOwn (model X.prog X.w) X.A X.env X.xe)(hc:X.calm=true)(hi:RI X tg iter wi)(hg:RG X tg g)(hb:RSs X body tb)(hs:∀ x,foldedSetIterable iter X.env x=pure x:=by intro _;rfl) :
  RS X (.For tg iter body [] pos) (Vk wi g tb):=⟨Uz hp hc hi.ok hg.ok hb.ok hs⟩
theorem Bl{c:Expr}{tc:TT}(hp:PassesOwn (model X.prog X.w) X.A X.env X.xe)(hc:RT X c tc)(hb:RSs X body tb):RS X (.While c body [] pos) (NP tc tb):=⟨LR hp hc.ok hb.ok⟩
theorem Ec{o value:Expr}{f:Str}{ta tv:TE}{pos':Pos}(ha:RE X o ta)(hv:RE X value tv)(hs:tX value=true:=by rfl):RS X (.Assign [.Attribute o f pos'] value pos) (X5 X.K ta tv f):=⟨Uy ha.ok hv.ok (Nr hs)⟩
theorem kj{y:Str}{py px spos:Pos}{scope:Scope}{elt:Expr}{ifs:List Expr}{wi:TI}{tc:TT}(hN:X.N.Nodup)(hiy:X.N[i]?=some y)(hy:X.env.scope.names.lookup y=some .local)
  (ok:qF scope X.env.scope X.N x=true) (hc:X.calm=true) (hi:RI X (.Name x px) iter wi) (hif:∀ s H ex,RIf (gB X x scope s H ex) ifs tc) (he:∀ s H ex,RE (gB X x scope s H ex) elt te)
  (hsw:swapsWith (.ListComp elt [⟨.Name x px,iter,ifs,0⟩] scope pos) (some (.Name y py)) spos.line X.env=pure true:=by rfl) (hs:∀ v,foldedSetIterable iter X.env v=pure v:=by intro _;rfl) :
  RS X (.Assign [.Name y py] (.ListComp elt [⟨.Name x px,iter,ifs,0⟩] scope pos) spos) (Nu i wi tc te):=⟨Qt hN hiy hy ok hc hi.ok (fun s H ex=>(hif s H ex).ok) (fun s H ex=>(he s H ex).ok) hsw hs⟩
theorem RS.nox(h:RS X.nox st t):RS X st t:=⟨PS.nox h.ok⟩
theorem RT.nox{tt:TT}(h:RT X.nox e tt):RT X e tt:=⟨PT.nox h.ok⟩
theorem QT{te:TEX}(he:REX X e te):RSX X [.Return (some e) pos] (RV te):=⟨Qx he.ok⟩
theorem Va:RH X [] (fun _ _ _ _=>False):=⟨Uv⟩
theorem GC{n:Str}{np hpos:Pos}{b₀:Stmt}{suite:List Stmt}{hrest:List ExceptHandler}{C':Addr}{ts:TS}{th:Addr->TS}(hex:X.ex=[])(hN:X.N.Nodup)(hi:X.N[i]?=some n)(hn:X.env.scope.names.lookup n=some .local)
  (hg:Gl X x) (hm:X.mg x=some (.ref C')) (c':gM X.K C') (hs:∀ ea,RSs (oE X ea) (b₀::suite) ts) (hr:RH X hrest th) (hd:(x==("__debug__" : Str))=false:=by decide) :
  RH X (.ExceptHandler (some (.Name x np)) (some n) (b₀::suite) hpos::hrest) (NQ X.K C' i ts th):=⟨Qk hex hN hi hn hg hm c' (fun ea=>(hs ea).ok) hr.ok hd⟩
theorem Vd{h₀:ExceptHandler}{hs:List ExceptHandler}{tb:TSX}{th:Addr->TS}(hst:X.stack=X.env::X.outer)(hfr:X.env.frame=some X.env.locals)(hb:RSX X body tb)(hh:RH X (h₀::hs) th) :
  RS X (.Try body (h₀::hs) [] [] pos) (Xf tb th):=⟨UW hst hfr hb.ok hh.ok⟩
end
section
variable{P:Program}{w:World}{K:PySem.W.Frag}{mg:Str->Option Value}{base:Heap}{N:List Str}{qual:Str}{scope:Scope}{f:Addr}{cd:Value}{A:Around}{outer:List Env}{s0:Shared}{H0:Hp}{E:XK}
theorem pU{x:Str}{np cpos pos:Pos}{e₀:Expr}{rest:List Expr}{t:TA}{C:Addr}(c:gM K C)(hg:Gl (lR (CXE P w) P w K mg base N qual scope f cd A outer s0 H0 E) x)(hm:mg x=some (.ref C))(hh:A.handled=none)
  (ha:RA (lR (CXE P w) P w K mg base N qual scope f cd A outer s0 H0 E) (e₀::rest) t) (h1:notStar e₀=true:=by rfl) (h2:rest.all notStar=true:=by rfl) (hd:(x==("__debug__" : Str))=false:=by decide) :
  RS (lR (CXE P w) P w K mg base N qual scope f cd A outer s0 H0 E) (.Raise (some (.Call (.Name x np) (e₀::rest) [] cpos)) none pos) (NK t C E):=⟨LQ c hg hm hh ha.ok hd (jd h1) (sG h2)⟩
theorem Fun.Vc{x qual:Str}{st:Stmt}{f:Addr}{fd:FuncData}{N ps:List Str}{k:Nat}{sp:Sp}(F:Fun K x qual st f fd)(S:aW N ps (aG st))(len:∀ vs H Q E,sp vs H Q E->vs.length=ps.length)
  (hbody:∀(cdv:Value)(A:Around)(outer:List Env)(s:Shared)(H:Hp)(vs:List V)(Q:VK)(E:XK),dX k (A.deeper (envOfC qual (aG st) s.heap.objs.size f cdv))->sp vs H Q E ->
   ∃ t,RSs (lR (CXE P w) P w K mg base N qual (aG st) f cdv A outer s H E) (dB st) t/\t { nx:=fun _ H'=>Q .non H',rt:=Q } (start N vs) H):cu P w K mg base (CXE P w) (k+1) f fd ps sp:=
 F.okE S len fun cdv A outer s H vs Q E hr hsp=>let ⟨t,h,q⟩:=hbody cdv A outer s H vs Q E hr hsp;⟨t,h.ok,q⟩
theorem Fun.rok{x qual:Str}{st:Stmt}{f:Addr}{fd:FuncData}{N ps:List Str}{k:Nat}{sp:Sp}(F:Fun K x qual st f fd)(S:aW N ps (aG st))(len:∀ vs H Q E,sp vs H Q E->vs.length=ps.length)
  (hbody:∀(cdv:Value)(A:Around)(outer:List Env)(s:Shared)(H:Hp)(vs:List V)(Q:VK)(E:XK),dX k (A.deeper (envOfC qual (aG st) s.heap.objs.size f cdv))->sp vs H Q E ->
   ∃ t,RSs (lR (CXE P w) P w K mg base N qual (aG st) f cdv A outer s H E).nox (dB st) t/\t { nx:=fun _ H'=>Q .non H',rt:=Q } (start N vs) H):cu P w K mg base (CXE P w) (k+1) f fd ps sp:=
 F.ok0 S len fun cdv A outer s H vs Q E hr hsp=>let ⟨t,h,q⟩:=hbody cdv A outer s H vs Q E hr hsp;⟨t,h.ok,q⟩
end
end L2
namespace L2
open PySem PySem.Spec PyProof.Rows
mutual
theorem Den.mono{K:PySem.W.Frag}{H H':Hp}(s:Same H H'):∀ {v:V} {d:Dt},Den K H v d->Den K H' v d
 |_,_,.non=>.non
 |_,_,.bl b=>.bl b
 |_,_,.int i=>.int i
 |_,_,.str x=>.str x
 |_,_,.tup h hs=>.tup (s _ _ h) (aN.mono s hs)
 |_,_,.lst h hs=>.lst (s.seq h) (aN.mono s hs)
theorem aN.mono{K:PySem.W.Frag}{H H':Hp}(s:Same H H'):∀ {vs:List V} {ds:List Dt},aN K H vs ds->aN K H' vs ds
 |_,_,.nil=>.nil
 |_,_,.cons h t=>.cons (Den.mono s h) (aN.mono s t)
end
theorem aN.ints{K:PySem.W.Frag}{H:Hp}:∀ ns:List Int,aN K H (ns.map V.int) (ns.map Dt.int)
 |[]=>.nil
 |n::ns=>.cons (.int n) (aN.ints ns)
theorem aN.strs{K:PySem.W.Frag}{H:Hp}:∀ zs:List Str,aN K H (zs.map V.str) (zs.map Dt.str)
 |[]=>.nil
 |z::zs=>.cons (.str z) (aN.strs zs)
theorem aN.yU{K:PySem.W.Frag}{H:Hp}:∀ {ns:List Int} {vs:List V},aN K H vs (ns.map Dt.int)->vs=ns.map V.int
 |[],_,.nil=>rfl
 |n::ns,_,.cons h t=>by cases h;rw[aN.yU t];rfl
theorem aN.yS{K:PySem.W.Frag}{H:Hp}:∀ {bs:List Bool} {vs:List V},aN K H vs (bs.map Dt.bl)->vs=bs.map V.bl
 |[],_,.nil=>rfl
 |n::ns,_,.cons h t=>by cases h;rw[aN.yS t];rfl
structure lF(J:It)(H:Hp)(vs:List V):Prop where
 go:∀ H' i,Same H H'->i<vs.length->J.go i H'
 yld:∀ H' i v H'',Same H H'->i<vs.length->J.yld i H' v H''->vs[i]?=some v/\H''=H'
 stop:∀ H',Same H H'->J.stop vs.length H'
theorem bf{K:PySem.W.Frag}{H:Hp}{a:Addr}{vs:List V}(h:SqL K H a vs):lF (Itl K a) H vs:=
 ⟨fun H' i s hi=>⟨vs,vs[i],s.seq h,by simp[hi]⟩,fun H' i v H'' s hi y=>⟨y.2 vs (s.seq h),y.1⟩,fun H' s=>⟨vs,s.seq h,Nat.le_refl _⟩⟩
theorem vA{H:Hp}(lo:Int)(n:Nat):lF (Itr lo n) H (((List.range n).map fun i:Nat=>lo+(i:Int)).map V.int):=by
 have hl:(((List.range n).map fun i:Nat=>lo+(i:Int)).map V.int).length=n:=by simp
 refine⟨fun H' i _ hi=>?_,fun H' i v H'' _ hi y=>⟨?_,y.1⟩,fun H' _=>?_⟩
 ·rw[hl] at hi;exact hi
 ·rw[hl] at hi
  rw[y.2]
  simp[hi]
 ·rw[hl];exact Nat.le_refl _
theorem Ln{H:Hp}(z:Str):lF (Its z) H ((z.cps.toList.map fun c=>(⟨#[c]⟩:Str)).map V.str):=by
 have hl:((z.cps.toList.map fun c=>(⟨#[c]⟩:Str)).map V.str).length=z.cps.size:=by simp
 refine⟨fun H' i _ hi=>?_,fun H' i v H'' _ hi y=>?_,fun H' _=>?_⟩
 ·rw[hl] at hi;exact hi
 ·rw[hl] at hi
  obtain⟨e,c,ec,y⟩:=y
  have:z.cps.toList[i]?=some c:=by simpa using ec
  exact⟨by rw[y];simp[this],e⟩
 ·rw[hl];exact Nat.le_refl _
theorem bY{α:Type}{K:PySem.W.Frag}{J:It}{H:Hp}{vs:List V}{xs:List α}{enc:α->Dt}{tc:TT}{te:TE}{σ:St}{fin:List V->Hp->Prop}(hJ:lF J H vs)(hx:aN K H vs (xs.map enc))(hn:xs.length<=sizeLine)(p:α->Bool)(f:α->Dt)
  (ht:∀ a∈xs,∀ v H',Same H H'->Den K H' v (enc a)->∀ G:Bool->Hp->Prop,(∀ H'',Same H' H''->G (p a) H'')->tc (some v::σ) H' G)
  (hf:∀ a∈xs,p a=true->∀ v H',Same H H'->Den K H' v (enc a)->∀ G:VK,(∀ y H'',Same H' H''->Den K H'' y (f a)->G y H'')->te (some v::σ) H' G)
  (hd:∀ ys H',Same H H'->aN K H' ys ((xs.filter p).map f)->fin ys H'):∃ W:Nat->Nat->List V->Hp->Prop,(∃ m,W 0 m [] H)/\lD J tc te σ fin W:=by
 have hlv:vs.length=xs.length:=by rw[hx.length,List.length_map]
 refine Fp (n:=vs.length) (item:=fun i=>vs.getD i .non) (fun i ys H'=>Same H H'/\aN K H' ys (((xs.take i).filter p).map f)) (by rw[hlv];exact hn) (fun i ys H' hi r=>hJ.go H' i r.1 hi) (fun i ys H' v H'' hi r y=>?_) (fun ys H' r=>hJ.stop H' r.1)
  (fun i ys H' hi r=>?_) ⟨Same.refl _,.nil⟩ (fun i ys H' hi r G hG=>?_) (fun ys H' r=>?_)
 ·obtain⟨e,e'⟩:=hJ.yld H' i v H'' r.1 hi y
  exact⟨by rw[List.getD_eq_getElem?_getD,e];rfl,e'⟩
 ·rw[r.2.length,List.length_map]
  exact Nat.le_trans (List.length_filter_le _ _) (by rw[List.length_take];exact Nat.min_le_left _ _)
 ·obtain⟨s1,D⟩:=r
  have hi':i<xs.length:=by lia
  have ev:vs[i]?=some (vs.getD i .non):=by simp[List.getD_eq_getElem?_getD,hi]
  obtain⟨d,ed,dv⟩:=hx.get ev
  have ea:d=enc xs[i]:=by
   rw[List.getElem?_map,List.getElem?_eq_getElem hi'] at ed
   exact(Option.some.inj ed).symm
  subst ea
  have tk:xs.take (i+1)=xs.take i++[xs[i]]:=by rw[List.take_succ,List.getElem?_eq_getElem hi'];rfl
  refine ht xs[i] (List.getElem_mem hi') _ H' s1 (dv.mono s1) _ fun H2 s2=>?_
  cases hp:p xs[i] with
  |false=>
   refine nQ (hG _ _ ⟨s1.trans s2,?_⟩)
   rw[tk,List.filter_append,show List.filter p [xs[i]]=[] by simp[hp],List.append_nil]
   exact D.mono s2
  |true=>
   refine tH (hf xs[i] (List.getElem_mem hi') hp _ H2 (s1.trans s2) (dv.mono (s1.trans s2)) _ fun y H3 s3 dy=>hG _ _ ⟨(s1.trans s2).trans s3,?_⟩)
   rw[tk,List.filter_append,show List.filter p [xs[i]]=[xs[i]] by simp[hp],List.map_append]
   exact(D.mono (s2.trans s3)).append (.cons dy .nil)
 ·rw[hlv,List.take_length] at r
  exact hd ys H' r.1 r.2
theorem comp_map{α:Type}{K:PySem.W.Frag}{J:It}{H:Hp}{vs:List V}{xs:List α}{enc:α->Dt}{te:TE}{σ:St}{fin:List V->Hp->Prop}(hJ:lF J H vs)(hx:aN K H vs (xs.map enc))(hn:xs.length<=sizeLine)(f:α->Dt)
  (hf:∀ a∈xs,∀ v H',Same H H'->Den K H' v (enc a)->∀ G:VK,(∀ y H'',Same H' H''->Den K H'' y (f a)->G y H'')->te (some v::σ) H' G)
  (hd:∀ ys H',Same H H'->aN K H' ys (xs.map f)->fin ys H'):∃ W:Nat->Nat->List V->Hp->Prop,(∃ m,W 0 m [] H)/\lD J Jp te σ fin W:=
 bY hJ hx hn (fun _=>true) f (fun a _ v H' _ _ G hG=>hG H' (Same.refl _)) (fun a ha _=>hf a ha) fun ys H' s D=>hd ys H' s (by rw[List.filter_eq_self.mpr (fun _ _=>rfl)] at D;exact D)
end L2
namespace L2
open PySem PySem.Spec PyProof.Rows
section
variable{X:Cx}{K:PySem.W.Frag}
theorem rW(hu:X.A.units+60<cLine)(hK:X.K=K:=by rfl):OpR X (compareOp .Eq) (QG K false):=by subst hK;exact U7 hu
theorem Gb(hu:X.A.units+60<cLine)(hK:X.K=K:=by rfl):OpR X (compareOp .NotEq) (QG K true):=by subst hK;exact Ub hu
theorem nY(hu:X.A.units+61<cLine)(hK:X.K=K:=by rfl):OpR X (compareOp .In) (DW K false):=by subst hK;exact U9 hu
theorem jz(hu:X.A.units+61<cLine)(hK:X.K=K:=by rfl):OpR X (compareOp .NotIn) (DW K true):=by subst hK;exact IV hu
theorem bZ(hK:X.K=K:=by rfl):IxR X (rIx K):=by subst hK;exact T9
def Rv(K:PySem.W.Frag):List V->Hp->VK->Prop:=fun xs H Q=>(∃ p ys,xs=[.ref p]/\(SqL K H p ys\/SqT K H p ys)/\Q (.int ys.length) H)\/(∃ z,xs=[.str z]/\z.length<=sizeLine/\Q (.int z.length) H)
theorem cN(hK:X.K=K:=by rfl):cA X (.builtin "len") (Rv K):=by subst hK;exact yu.or yw
def Yu(K:PySem.W.Frag):V->Option Int->Option Int->Hp->VK->Prop:=fun x lo hi H Q=>WX K x lo hi H Q\/WY x lo hi H Q
theorem Kr(hK:X.K=K:=by rfl):SlR X (Yu K):=by subst hK;exact R0.or Vh
def QH(K:PySem.W.Frag):List V->Hp->VK->Prop:=fun xs H Q=>∃ p ys,xs=[.ref p]/\(SqL K H p ys\/SqT K H p ys)/\∀ l,H l=none->Q (.ref l) (upd H l (.lst ys))
theorem Kq(hK:X.K=K:=by rfl):cA X (.type "list") (QH K):=by subst hK;exact yx
def Wx(K:PySem.W.Frag):List V->Hp->VK->Prop:=fun xs H Q=>∃(p:Addr)(bs:List Bool),xs=[.ref p]/\SqL K H p (bs.map V.bl)/\Q (.bl (bs.all id)) H
theorem k_all(hc:X.calm=true)(hK:X.K=K:=by rfl):cA X (.builtin "all") (Wx K):=by subst hK;exact JH hc
end
section
variable{X:Cx}{K:PySem.W.Frag}{tg l e o:Expr}{es:List Expr}{te ta to:TE}{t:TA}{pos apos cpos:Pos}{f name:Str}{T id:String}{rm:V->List V->Hp->VK->Prop}
theorem aQ(hl:RE X l te)(hK:X.K=K:=by rfl):RI X tg l (FZ K te):=by subst hK;exact QM hl
theorem jU(he:RE X e ta)(hK:X.K=K:=by rfl)(hb:attributeBase e f X.env (eval e X.env)=eval e X.env:=by rfl):RE X (.Attribute e f pos) (Vj K ta f):=by subst hK;exact X4 he hb
theorem jA(pa:PlainAttrs T)(slot:Slot T name id) (hty:typeOf (.builtin id)=pure (.type "method_descriptor")) (hm:MtR X id rm) (ho:RE X o to) (ha:RA X (e::es) t) (hK:X.K=K:=by rfl) (h1:(e::es).all notStar=true:=by rfl)
  (hbase:attributeBase o name X.env (eval o X.env)=eval o X.env:=by rfl) (hlen:decide ((e::es).length<30)=true:=by rfl) (hline:(apos.endLine==cpos.line)=true:=by rfl):RE X (.Call (.Attribute o name apos) (e::es) [] cpos) (tBM K T rm to t):=by
 subst hK;exact Yv pa slot hty hm ho ha h1 hbase hlen hline
theorem Tn(pa:PlainAttrs T)(slot:Slot T name id) (hty:typeOf (.builtin id)=pure (.type "method_descriptor")) (hm:MtR X id rm) (ho:RE X o to) (hK:X.K=K:=by rfl)
  (hbase:attributeBase o name X.env (eval o X.env)=eval o X.env:=by rfl) (hline:(apos.endLine==cpos.line)=true:=by rfl):RE X (.Call (.Attribute o name apos) [] [] cpos) (Vi K T rm to):=by
 subst hK;exact X3 pa slot hty hm ho hbase hline
end
theorem bK:bootBuiltins "len" = some (.builtin "len"):=by decide +kernel
theorem Cr:bootBuiltins "all" = some (.builtin "all"):=by decide +kernel
theorem fV:bootBuiltins "isinstance" = some (.builtin "isinstance"):=by decide +kernel
theorem mV:bootBuiltins "sorted" = some (.builtin "sorted"):=by decide +kernel
theorem Cv:bootBuiltins "min" = some (.builtin "min"):=by decide +kernel
theorem JD:bootBuiltins "max" = some (.builtin "max"):=by decide +kernel
theorem Cu:bootBuiltins "int" = some (.type "int"):=by decide +kernel
theorem S7:bootBuiltins "str" = some (.type "str"):=by decide +kernel
theorem tM:bootBuiltins "list" = some (.type "list"):=by decide +kernel
theorem JF:bootBuiltins "tuple" = some (.type "tuple"):=by decide +kernel
theorem S6:bootBuiltins "set" = some (.type "set"):=by decide +kernel
theorem yt:bootBuiltins "enumerate" = some (.type "enumerate"):=by decide +kernel
end L2
namespace L2
open PySem PySem.Spec PyProof.Rows
theorem aD{t u:TS}{D:Ends}{σ:L2.St}{H:Hp}(Mid:L2.St->Hp->Prop)(h:∀ R:L2.St->Hp->Prop,(∀ σ' H',Mid σ' H'->R σ' H')->t { D with nx:=R } σ H)(k:∀ σ' H',Mid σ' H'->u D σ' H'):Vm t u D σ H:=h (u D) k
theorem sz{n:Nat}(h:Nat.ble n 10000=true):n<=sizeLine:=small (Nat.le_of_ble_eq_true h)
theorem JW{i j:Int}:decide (V.int i=V.int j)=decide (i=j):=by simp
theorem cW{α:Type}{x:α}{xs:List α}:atI (x::xs) 0=some x:=eZ (j:=0) rfl
theorem Km{A:Around}{k:Nat}{env:Env}(hr:dX k (A.deeper env)):A.handled=none:=hr.hd
theorem fj{b:Bool}{A Bq:Prop}(h1:b=true->A)(h2:b=false->Bq):if b=true then A else Bq:=by
 cases b with
 |true=>exact tH (h1 rfl)
 |false=>exact nQ (h2 rfl)
theorem zO{l n m:Int}{te:TE}{σ:L2.St}{H:Hp}{G:Bool->Hp->Prop}(he:∀ Q':VK,Q' (.int m) H->te σ H Q')(hg:G (decide (l<=n/\n<m)) H) :
  if decide (l<=n)=true then te σ H (fun w' H4=>rI0 (fun i j=>.bl (decide (i<j))) (.int n) w' H4 fun x H'=>∃ k,x=.bl k/\G k H') else ∃ k,V.bl false=.bl k/\G k H:=by
 refine wA (fun h1=>he _ ⟨_,_,rfl,rfl,_,rfl,?_⟩) (fun h1=>⟨_,rfl,?_⟩)
 ·have h1':=of_decide_eq_true h1
  have e:decide (l<=n/\n<m)=decide (n<m):=by simp[h1']
  rw[<- e];exact hg
 ·have e:decide (l<=n/\n<m)=false:=decide_eq_false fun h=>h1 (decide_eq_true h.1)
  rw[<- e];exact hg
theorem wU{l n m:Int}{te:TE}{σ:L2.St}{H:Hp}{G:VK}(he:∀ Q':VK,Q' (.int m) H->te σ H Q')(hg:G (.bl (decide (l<=n/\n<m))) H) :
  if decide (l<=n)=true then te σ H (fun w' H4=>rI0 (fun i j=>.bl (decide (i<j))) (.int n) w' H4 G) else G (.bl false) H:=by
 refine wA (fun h1=>he _ ⟨_,_,rfl,rfl,?_⟩) (fun h1=>?_)
 ·have h1':=of_decide_eq_true h1
  have e:decide (l<=n/\n<m)=decide (n<m):=by simp[h1']
  show G (.bl (decide (n<m))) H
  rw[<- e];exact hg
 ·have e:decide (l<=n/\n<m)=false:=decide_eq_false fun h=>h1 (decide_eq_true h.1)
  rw[<- e];exact hg
abbrev Cell:=Int×Int
def ao(x:Cell):Dt:=.tup [.int x.1,.int x.2]
theorem Ac(a b:Cell):eqD (ao a) (ao b)=decide (a=b):=by
 have e1:eqD (.int a.1) (.int b.1)=decide (a.1=b.1):=by rw[lV rfl rfl];exact(Bool.beq_eq_decide_eq _ _)
 have e2:eqD (.int a.2) (.int b.2)=decide (a.2=b.2):=by rw[lV rfl rfl];exact(Bool.beq_eq_decide_eq _ _)
 show(eqD (.int a.1) (.int b.1)&&(eqD (.int a.2) (.int b.2)&&true))=_
 rw[e1,e2,Bool.and_true]
 by_cases h1:a.1=b.1<;>by_cases h2:a.2=b.2<;>simp[h1,h2,Prod.ext_iff]
theorem uP(a:Cell):lB (ao a)<=50:=Nat.le_of_ble_eq_true rfl
theorem uy(x:Cell):∀ cs:List Cell,((cs.map ao).any fun e=>eqD e (ao x))=decide (x∈cs)
 |[]=>by simp
 |c::cs=>by
  rw[List.map_cons,List.any_cons,Ac,uy x cs]
  by_cases h:c=x<;>by_cases h2:x∈cs<;>simp[h,h2,eq_comm]
  intro e;exact absurd e.symm h
def Ls(K:PySem.W.Frag)(H:Hp)(p:Addr)(ds:List Dt):Prop:=∃ xs,H p=some (.lst xs)/\aN K H xs ds
theorem Ls.den{K:PySem.W.Frag}{H:Hp}{p:Addr}{ds:List Dt}(h:Ls K H p ds):Den K H (.ref p) (.lst ds):=let ⟨_,e,D⟩:=h;.lst (SqL.of e) D
theorem Ls.mono{K:PySem.W.Frag}{H H':Hp}{p:Addr}{ds:List Dt}(h:Ls K H p ds)(s:Same H H'):Ls K H' p ds:=let ⟨xs,e,D⟩:=h;⟨xs,s _ _ e,D.mono s⟩
theorem Ls.new{K:PySem.W.Frag}{H:Hp}{p:Addr}{xs:List V}{ds:List Dt}(hp:H p=none)(D:aN K H xs ds):Ls K (upd H p (.lst xs)) p ds:=⟨xs,aA,D.mono (Same.put hp)⟩
structure Fr(K:PySem.W.Frag)(H H':Hp)(p:Addr)(ds:List Dt):Prop where
 same:Same H H'
 new:H p=none
 ls:Ls K H' p ds
theorem dD{K:PySem.W.Frag}{H:Hp}{v:V}{x:Cell}(h:Den K H v (ao x)):∃ a,v=.ref a/\SqT K H a [.int x.1,.int x.2]/\H a=some (.tup [.int x.1,.int x.2]):=by
 cases h with
 |tup ht hs=>
  cases hs with
  |cons h1 hs=>
   cases hs with
   |cons h2 hs=>
    cases hs;cases h1;cases h2
    exact⟨_,rfl,SqT.of ht,ht⟩
theorem dY{K:PySem.W.Frag}{H:Hp}{p:Addr}{a b:Int}:Den K (upd H p (.tup [.int a,.int b])) (.ref p) (ao (a,b)):=.tup aA (.cons (.int _) (.cons (.int _) .nil))
section
variable{K:PySem.W.Frag}{H:Hp}{v:V}{x:Cell}{p:Addr}{cs:List Cell}{Q:VK}
theorem lZ(d:Den K H v (ao x))(q:Q (.int x.1) H):rIx K v (.int 0) H Q:=by
 obtain⟨a,rfl,h,_⟩:=dD d
 exact .inr (.inl ⟨a,_,_,_,rfl,rfl,h,cW,q⟩)
theorem m8(d:Den K H v (ao x))(q:Q (.int x.2) H):rIx K v (.int 1) H Q:=by
 obtain⟨a,rfl,h,_⟩:=dD d
 exact .inr (.inl ⟨a,_,_,_,rfl,rfl,h,eZ (j:=1) rfl,q⟩)
theorem vI(d:Den K H v (ao x))(h:Den K H (.ref p) (.lst (cs.map ao)))(q:Q (.bl (decide (x∈cs))) H):DW K false v (.ref p) H Q:=by
 refine⟨ao x,cs.map ao,p,rfl,d,.inl h,fun e he=>?_,?_⟩
 ·obtain⟨c,_,rfl⟩:=List.mem_map.mp he
  exact⟨rfl,uP c⟩
 ·show Q (.bl ((cs.map ao).any fun e=>eqD e (ao x))) H
  rw[uy];exact q
theorem jD(d:Den K H v (ao x))(h:Den K H (.ref p) (.lst (cs.map ao)))(q:Q (.bl (!decide (x∈cs))) H):DW K true v (.ref p) H Q:=by
 refine⟨ao x,cs.map ao,p,rfl,d,.inl h,fun e he=>?_,?_⟩
 ·obtain⟨c,_,rfl⟩:=List.mem_map.mp he
  exact⟨rfl,uP c⟩
 ·show Q (.bl (!(cs.map ao).any fun e=>eqD e (ao x))) H
  rw[uy];exact q
theorem jX{ds:List Dt}(h:Den K H (.ref p) (.lst ds))(q:Q (.int ds.length) H):Rv K [.ref p] H Q:=by
 cases h with
 |lst hl D=>exact .inl ⟨p,_,rfl,.inl hl,by rw[D.length];exact q⟩
theorem V8{σ:L2.St}{i j:Nat}{N:L2.St->Hp->Prop}(d:Den K H v (ao x))(q:N ((σ.set i (some (.int x.1))).set j (some (.int x.2))) H):T3 K 2 (FQ (xH i) (FQ (xH j) SX)) v σ H N:=by
 obtain⟨a,rfl,h,_⟩:=dD d
 exact⟨a,_,rfl,h,rfl,_,_,rfl,_,_,rfl,rfl,q⟩
theorem qZ{q':Addr}{ds es:List Dt}(h:Ls K H p ds)(h2:Ls K H q' es)(hz:ds.length+es.length<=10000)(q:∀ r H',Fr K H H' r (ds++es)->Q (.ref r) H'):Bd (.ref p) (.ref q') H Q:=by
 obtain⟨xs,e,D⟩:=h
 obtain⟨ys,e2,D2⟩:=h2
 exact⟨xs,ys,e,e2,by rw[D.length,D2.length];exact small hz,fun r hr=>q r _ ⟨Same.put hr,hr,.new hr (D.append D2)⟩⟩
end
def inF(h w:Int)(x:Cell):Prop:=(0<=x.1/\x.1<h)/\(0<=x.2/\x.2<w)
instance(h w:Int)(x:Cell):Decidable (inF h w x):=by unfold inF;infer_instance
def offs:List Cell:=[(-1,-1),(-1,0),(-1,1),(0,-1),(0,1),(1,-1),(1,0),(1,1)]
def aZ(h w:Int)(x:Cell):List Cell:=(offs.map fun d=>(x.1+d.1,x.2+d.2)).filter fun y=>decide (inF h w y)
def bJ(h w:Nat):List Cell:=(List.range h).flatMap fun r:Nat=>(List.range w).map fun c:Nat=>((r:Int),(c:Int))
def pB(h w:Int)(st:List Cell)(x:Cell):Nat:=((aZ h w x).filter fun y=>decide (y∈st)).length
def inS(sg:Str)(c:Nat):Bool:=!(Builtin.Str.occurrences sg ⟨#[c]⟩ 0 sg.length 1).isEmpty
def codeAt(zs:List Str)(x:Nat×Nat):Nat:=(zs.getD x.1 Str.empty).cps.getD x.2 0
def bx(zs:List Str)(w:Nat)(sg:Str):List Cell:=(List.range zs.length).flatMap fun r:Nat=>((List.range w).filter fun c=>inS sg (codeAt zs (r,c))).map fun c:Nat=>((r:Int),(c:Int))
structure Rect(zs:List Str)(w:Nat):Prop where
 ne:1<=zs.length
 le:zs.length<=6
 w1:1<=w
 w6:w<=6
 len:∀ z∈zs,z.length=w
theorem Rect.head{zs:List Str}{w:Nat}(h:Rect zs w):∃ z zt,zs=z::zt/\z.length=w:=by
 cases zs with
 |nil=>exact absurd h.ne (by decide)
 |cons z zt=>exact⟨z,zt,rfl,h.len z List.mem_cons_self⟩
end L2
namespace L2
open PySem PySem.Spec PyProof.Rows
def SameBut(p:Addr)(H H':Hp):Prop:=∀ b o,H b=some o->b≠p->H' b=some o
theorem SameBut.refl(p:Addr)(H:Hp):SameBut p H H:=fun _ _ e _=>e
theorem SameBut.trans{p:Addr}{H H1 H2:Hp}(a:SameBut p H H1)(b:SameBut p H1 H2):SameBut p H H2:=fun c o e n=>b c o (a c o e n) n
theorem Same.but{H H':Hp}(s:Same H H')(p:Addr):SameBut p H H':=fun b o e _=>s b o e
theorem SameBut.put{p:Addr}{H H':Hp}{o:HO}(s:SameBut p H H'):SameBut p H (upd H' p o):=fun b u e n=>by rw[aO n];exact s b u e n
theorem SameBut.and{p q:Addr}{H H':Hp}{o:HO}(s:SameBut p H H')(hq:H' q=none):SameBut p H (upd H' q o):=fun b u e n=>(Same.put hq) b u (s b u e n)
theorem SameBut.of{p:Addr}{H H0 H':Hp}(s:SameBut p H0 H')(a:Same H H0)(np:H p=none):Same H H':=fun b o e=>s b o (a b o e) (bG e np)
section
variable{K:PySem.W.Frag}{p:Addr}{H H':Hp}{l:List V}
theorem SameBut.seq{a:Addr}{xs:List V}(s:SameBut p H H')(ha:H a=some (.lst xs))(n:a≠p):SqL K H' a xs:=SqL.of (s _ _ ha n)
theorem SameBut.cell{v:V}{x:Cell}(s:SameBut p H H')(hp:H p=some (.lst l))(h:Den K H v (ao x)):Den K H' v (ao x):=by
 obtain⟨a,rfl,_,ht⟩:=dD h
 exact .tup (s _ _ ht (pH ht hp (by intro z;cases z))) (.cons (.int _) (.cons (.int _) .nil))
theorem SameBut.cells(s:SameBut p H H')(hp:H p=some (.lst l)):∀ {vs:List V} {cs:List Cell},aN K H vs (cs.map ao)->aN K H' vs (cs.map ao)
 |[],[],_=>.nil
 |v::vs,c::cs,.cons h t=>.cons (s.cell hp h) (s.cells hp t)
theorem SameBut.ls{q:Addr}{cs:List Cell}(s:SameBut p H H')(hp:H p=some (.lst l))(n:q≠p)(h:Ls K H q (cs.map ao)):Ls K H' q (cs.map ao):=let ⟨xs,e,D⟩:=h;⟨xs,s _ _ e n,s.cells hp D⟩
end
theorem gj{K:PySem.W.Frag}{ta tb:TE}{tr:TA}{σ:L2.St}{H:Hp}{Q:List V->Hp->Prop}(a b:Int)(ha:∀ Q':VK,Q' (.int a) H->ta σ H Q')(hb:∀ Q':VK,Q' (.int b) H->tb σ H Q')
  (h:∀ v H',Same H H'->Den K H' v (ao (a,b))->tr σ H' fun xs H2=>Q (v::xs) H2):BL (Vn (BL ta (BL tb je))) tr σ H Q:=
 ha _ (hb _ ⟨sz rfl,fun p hp=>h _ _ (Same.put hp) dY⟩)
theorem Kf{K:PySem.W.Frag}{ta:TA}{g:TG}{tb:TS}{D:Ends}{σ:L2.St}{H:Hp}
  (h:ta σ H fun xs H1=>xs.length<=sizeLine/\∀ p,H1 p=none->∃ a,V.ref p=.ref a/\(∃ ys,SqL K (upd H1 p (.lst xs)) a ys)/\∃ W:Nat->Nat->L2.St->Hp->Prop,(∃ m,W 0 m σ (upd H1 p (.lst xs)))/\∀ i m σ H,W i m σ H ->
   ((Itl K a).stop i H/\D.nx σ H)\/((Itl K a).go i H/\∃ N:L2.St->Hp->Prop,(∀ σ' H',N σ' H'->∃ m',m'<m/\W (i+1) m' σ' H')/\∀ x H',(Itl K a).yld i H x H'->g x σ H' fun σ2 H2=>tb { D with nx:=N,ct:=N,bk:=D.nx } σ2 H2)) :
  Vk (FZ K (Vl ta)) g tb D σ H:=h
theorem ltl{n:Nat}(h:n<10000):n<sizeLine:=Nat.lt_of_lt_of_le h (by rw[sizeLine_eq];decide)
theorem qY{K:PySem.W.Frag}{p:Addr}{H:Hp}{l:List V}{v:V}{Q:VK}(hp:H p=some (.lst l))(hz:l.length<10000)(q:Q .non (upd H p (.lst (l++[v])))):Gu (.ref p) [v] H Q:=
 ⟨p,l,v,rfl,rfl,hp,Nat.lt_of_lt_of_le hz (by rw[sizeLine_eq];decide),q⟩
end L2
namespace L2
open PySem PySem.Spec PyProof.Rows
theorem Cp{zs:List Str}{r:Nat}(h:r<zs.length):atI (zs.map V.str) (r:Int)=some (.str (zs.getD r Str.empty)):=eZ (by simp[List.getD_eq_getElem?_getD,h])
theorem Ob{z:Str}{c:Nat}(h:c<z.length):atI z.cps.toList (c:Int)=some (z.cps.getD c 0):=by
 have h':c<z.cps.size:=h
 exact eZ (by simp[Array.getD_eq_getD_getElem?,h'])
theorem Rect.row{zs:List Str}{w r:Nat}(h:Rect zs w)(hr:r<zs.length):(zs.getD r Str.empty).length=w:=by
 have e:zs.getD r Str.empty=zs[r]:=by simp[List.getD_eq_getElem?_getD,hr]
 rw[e];exact h.len _ (List.getElem_mem hr)
theorem uc{K:PySem.W.Frag}{H:Hp}{p:Addr}{zs:List Str}{w r c:Nat}{Q:VK}(hS:SqL K H p (zs.map V.str))(rc:Rect zs w)(hr:r<zs.length)(hc:c<w)(q:Q (.str ⟨#[codeAt zs (r,c)]⟩) H):rIx K (.str (zs.getD r Str.empty)) (.int (c:Int)) H Q:=by
 have e:=rc.row hr
 exact .inr (.inr ⟨_,_,_,rfl,rfl,small (by have:=rc.w6;lia),Ob (by lia),q⟩)
theorem yZ{K:PySem.W.Frag}{H:Hp}{p:Addr}{zs:List Str}{r:Nat}{Q:VK}(hS:SqL K H p (zs.map V.str))(hr:r<zs.length)(q:Q (.str (zs.getD r Str.empty)) H):rIx K (.ref p) (.int (r:Int)) H Q:=
 .inl ⟨p,_,_,_,rfl,rfl,hS,Cp hr,q⟩
theorem sJ{H:Hp}(n:Nat):lF (Itr 0 n) H ((List.range n).map fun i:Nat=>V.int (i:Int)):=by
 have h:=vA (H:=H) 0 n
 have e:(((List.range n).map fun i:Nat=>(0:Int)+(i:Int)).map V.int)=(List.range n).map fun i:Nat=>V.int (i:Int):=by
  rw[List.map_map]
  refine List.map_congr_left fun i _=>?_
  simp
 rw[e] at h;exact h
theorem aN.nats{K:PySem.W.Frag}{H:Hp}:∀ l:List Nat,aN K H (l.map fun i:Nat=>V.int (i:Int)) (l.map fun i:Nat=>Dt.int (i:Int))
 |[]=>.nil
 |_::l=>.cons (.int _) (aN.nats l)
theorem eU{h w:Nat}{x:Cell}:x∈bJ h w↔inF h w x:=by
 unfold bJ inF
 rw[List.mem_flatMap]
 constructor
 ·rintro⟨r,hr,hx⟩
  obtain⟨c,hc,rfl⟩:=List.mem_map.mp hx
  rw[List.mem_range] at hr hc
  exact⟨⟨by show(0:Int)<=(r:Int);lia,by show(r:Int)<h;lia⟩,⟨by show(0:Int)<=(c:Int);lia,by show(c:Int)<w;lia⟩⟩
 ·rintro⟨⟨a,b⟩,⟨c,d⟩⟩
  refine⟨x.1.toNat,List.mem_range.mpr (by lia),List.mem_map.mpr ⟨x.2.toNat,List.mem_range.mpr (by lia),?_⟩⟩
  exact Prod.ext (by show((x.1.toNat:Nat):Int)=x.1;lia) (by show((x.2.toNat:Nat):Int)=x.2;lia)
theorem jR(h w:Nat):bJ (h+1) w=bJ h w++(List.range w).map fun c:Nat=>((h:Int),(c:Int)):=by
 unfold bJ
 rw[List.range_succ,List.flatMap_append]
 simp
theorem eG(h w:Nat):(bJ h w).length=h*w:=by
 induction h with
 |zero=>simp[bJ]
 |succ h ih=>rw[jR,List.length_append,ih,List.length_map,List.length_range,Nat.succ_mul]
theorem cT(h w:Int)(x:Cell):(aZ h w x).length<=8:=by
 unfold aZ
 exact Nat.le_trans (List.length_filter_le _ _) (by rw[List.length_map];decide)
theorem FJ(h w:Int)(st:List Cell)(x:Cell):pB h w st x<=8:=Nat.le_trans (List.length_filter_le _ _) (cT h w x)
theorem pG{h w:Int}{x y:Cell}(hy:y∈aZ h w x):inF h w y:=by
 unfold aZ at hy
 exact of_decide_eq_true (List.mem_filter.mp hy).2
theorem wQ(zs:List Str)(w:Nat)(sg:Str):(bx zs w sg).length<=zs.length*w:=by
 unfold bx
 have go:∀ n,((List.range n).flatMap fun r:Nat=>((List.range w).filter fun c=>inS sg (codeAt zs (r,c))).map fun c:Nat=>((r:Int),(c:Int))).length<=n*w:=by
  intro n
  induction n with
  |zero=>simp
  |succ n ih=>
   rw[List.range_succ,List.flatMap_append,List.length_append,Nat.succ_mul]
   refine Nat.add_le_add ih ?_
   simp only[List.flatMap_cons,List.flatMap_nil,List.append_nil,List.length_map]
   exact Nat.le_trans (List.length_filter_le _ _) (by rw[List.length_range];exact Nat.le_refl _)
 exact go _
def qD(zs:List Str)(w:Nat)(sg:Str)(n:Nat):List Cell:=(List.range n).flatMap fun r:Nat=>((List.range w).filter fun c=>inS sg (codeAt zs (r,c))).map fun c:Nat=>((r:Int),(c:Int))
theorem rQ(zs:List Str)(w:Nat)(sg:Str)(n:Nat):qD zs w sg (n+1)=qD zs w sg n++((List.range w).filter fun c=>inS sg (codeAt zs (n,c))).map fun c:Nat=>((n:Int),(c:Int)):=by
 unfold qD
 rw[List.range_succ,List.flatMap_append];simp
theorem CG(zs:List Str)(w:Nat)(sg:Str):∀ n,(qD zs w sg n).length<=n*w:=by
 intro n
 induction n with
 |zero=>simp[qD]
 |succ n ih=>
  rw[rQ,List.length_append,Nat.succ_mul,List.length_map]
  exact Nat.add_le_add ih (Nat.le_trans (List.length_filter_le _ _) (by rw[List.length_range];exact Nat.le_refl _))
end L2
namespace L2
open PySem PySem.Spec PyProof.Rows
def El(h w:Int)(st kn:List Cell)(x:Cell):Nat:=if x∈kn then 48+pB h w st x else 35
def nR(h w:Int)(st kn:List Cell)(r:Int)(n:Nat):Str:=⟨((List.range n).map fun c:Nat=>El h w st kn (r,(c:Int))).toArray⟩
def rH(h w:Nat)(st kn:List Cell):List Str:=(List.range h).map fun r:Nat=>nR h w st kn (r:Int) w
theorem Mt(h w:Int)(st kn:List Cell)(r:Int)(n:Nat):nR h w st kn r (n+1)=nR h w st kn r n++⟨#[El h w st kn (r,(n:Int))]⟩:=by
 unfold nR
 rw[List.range_succ,List.map_append]
 show(⟨_⟩:Str)=⟨_++_⟩
 simp
theorem GD(h w:Int)(st kn:List Cell)(r:Int)(n:Nat):(nR h w st kn r n).length=n:=by
 show(((List.range n).map fun c:Nat=>El h w st kn (r,(c:Int))).toArray).size=n
 simp
theorem dig:∀ n,n<=8->(Str.ofString (toString ((n:Nat):Int)):Str)=⟨#[48+n]⟩:=by
 intro n hn
 have:=(by decide +kernel:∀ k∈List.range 9,(Str.ofString (toString ((k:Nat):Int)):Str)=⟨#[48+k]⟩)
 exact this n (List.mem_range.mpr (by lia))
theorem Oo(n:Nat)(h:n<=8):((n:Nat):Int).natAbs.log2<1920:=by
 have e:((n:Nat):Int).natAbs=n:=Int.natAbs_natCast n
 rw[e]
 have:=(by decide:∀ k∈List.range 9,k.log2<1920)
 exact this n (List.mem_range.mpr (by lia))
inductive Reach(h w:Int)(st kn:List Cell)(x0:Cell):Cell->Prop
 |base:Reach h w st kn x0 x0
 |step {x y:Cell}:Reach h w st kn x0 x->pB h w st x=0->y∈aZ h w x->y∉kn->Reach h w st kn x0 y
theorem Ke{h w:Int}{st:List Cell}{x y:Cell}(e:pB h w st x=0)(hy:y∈aZ h w x):y∉st:=by
 unfold pB at e
 intro hs
 have:=List.length_eq_zero_iff.mp e
 have m:y∈(aZ h w x).filter fun y=>decide (y∈st):=List.mem_filter.mpr ⟨hy,decide_eq_true hs⟩
 rw[this] at m;cases m
theorem Reach.inF{h w:Int}{st kn:List Cell}{x0 y:Cell}(h0:inF h w x0)(r:Reach h w st kn x0 y):L2.inF h w y:=by
 induction r with
 |base=>exact h0
 |step _ _ hy _ _=>exact pG hy
theorem Reach.free{h w:Int}{st kn:List Cell}{x0 y:Cell}(h0:x0∉st)(r:Reach h w st kn x0 y):y∉st:=by
 induction r with
 |base=>exact h0
 |step _ e hy _ _=>exact Ke e hy
theorem Reach.new{h w:Int}{st kn:List Cell}{x0 y:Cell}(h0:x0∉kn)(r:Reach h w st kn x0 y):y∉kn:=by
 cases r with
 |base=>exact h0
 |step _ _ _ hk=>exact hk
theorem Al(h w:Int)(x:Cell):(aZ h w x).Nodup:=by
 unfold aZ
 refine List.Nodup.sublist List.filter_sublist ?_
 unfold List.Nodup
 rw[List.pairwise_map]
 have o:offs.Pairwise (·≠·):=by decide
 refine o.imp fun {a b} hab e=>hab ?_
 have e1:=congrArg Prod.fst e
 have e2:=congrArg Prod.snd e
 simp only at e1 e2
 exact Prod.ext (by lia) (by lia)
theorem iW{α:Type} [DecidableEq α]:∀ {l1 l2:List α},l1.Nodup->(∀ x∈l1,x∈l2)->l1.length<=l2.length
 |[],_,_,_=>Nat.zero_le _
 |a::l1,l2,hn,hs=>by
  have ha:=hs a List.mem_cons_self
  have hn':=List.nodup_cons.mp hn
  have ih:=iW (l1:=l1) (l2:=l2.erase a) hn'.2 fun x hx=>(List.mem_erase_of_ne (fun e:x=a=>hn'.1 (by rw[<- e];exact hx))).mpr (hs x (List.mem_cons_of_mem _ hx))
  rw[List.length_erase_of_mem ha] at ih
  have:0<l2.length:=List.length_pos_of_mem ha
  rw[List.length_cons];lia
structure jg(h w:Int)(st kn:List Cell)(x0:Cell)(cs:List Cell)(at_:Nat):Prop where
 nd:cs.Nodup
 has:x0∈cs
 rch:∀ y∈cs,Reach h w st kn x0 y
 le:at_<=cs.length
 cl:∀ i y,i<at_->cs[i]?=some y->pB h w st y=0->∀ z∈aZ h w y,z∈kn\/z∈cs
theorem jg.done{h w:Int}{st kn:List Cell}{x0:Cell}{cs:List Cell}(o:jg h w st kn x0 cs cs.length)(y:Cell):y∈cs↔Reach h w st kn x0 y:=by
 refine⟨o.rch y,fun r=>?_⟩
 induction r with
 |base=>exact o.has
 |step _ e hy hk ih=>
  obtain⟨i,hi⟩:=List.getElem?_of_mem ih
  have hlt:i<cs.length:=(List.getElem?_eq_some_iff.mp hi).1
  rcases o.cl i _ hlt hi e _ hy with z|z
  ·exact absurd z hk
  ·exact z
theorem jg.grow{h w:Int}{st kn:List Cell}{x0 x:Cell}{cs:List Cell}{n:Nat}(o:jg h w st kn x0 cs n)(hx:cs[n]?=some x)(e:pB h w st x=0) :
  jg h w st kn x0 (cs++(aZ h w x).filter fun y=>!decide (y∈kn)&&!decide (y∈cs)) (n+1):=by
 have hn:n<cs.length:=(List.getElem?_eq_some_iff.mp hx).1
 have mem:∀ y,y∈((aZ h w x).filter fun y=>!decide (y∈kn)&&!decide (y∈cs))↔y∈aZ h w x/\y∉kn/\y∉cs:=fun y=>by
  rw[List.mem_filter];simp
 refine⟨?_,List.mem_append_left _ o.has,fun y hy=>?_,by rw[List.length_append];lia,fun i y hi hy e' z hz=>?_⟩
 ·refine List.nodup_append.mpr ⟨o.nd,List.Nodup.sublist List.filter_sublist (Al h w x),fun a ha b hb hab=>?_⟩
  rw[<- hab] at hb
  exact((mem a).mp hb).2.2 ha
 ·rcases List.mem_append.mp hy with z|z
  ·exact o.rch y z
  ·obtain⟨z1,z2,z3⟩:=(mem y).mp z
   exact .step (o.rch x (List.mem_of_getElem? hx)) e z1 z2
 ·have hi':i<cs.length:=by lia
  rw[List.getElem?_append_left hi'] at hy
  by_cases hin:i=n
  ·subst hin
   rw[hx] at hy;cases hy
   by_cases zk:z∈kn
   ·exact .inl zk
   ·by_cases zc:z∈cs
    ·exact .inr (List.mem_append_left _ zc)
    ·exact .inr (List.mem_append_right _ ((mem z).mpr ⟨hz,zk,zc⟩))
  ·rcases o.cl i y (by lia) hy e' z hz with q|q
   ·exact .inl q
   ·exact .inr (List.mem_append_left _ q)
theorem jg.skip{h w:Int}{st kn:List Cell}{x0 x:Cell}{cs:List Cell}{n:Nat}(o:jg h w st kn x0 cs n)(hx:cs[n]?=some x)(e:pB h w st x≠0):jg h w st kn x0 cs (n+1):=by
 have hn:n<cs.length:=(List.getElem?_eq_some_iff.mp hx).1
 refine⟨o.nd,o.has,o.rch,hn,fun i y hi hy e' z hz=>?_⟩
 by_cases hin:i=n
 ·subst hin
  rw[hx] at hy;cases hy
  exact absurd e' e
 ·exact o.cl i y (by lia) hy e' z hz
theorem jg.len{h w:Nat}{st kn:List Cell}{x0:Cell}{cs:List Cell}{n:Nat}(o:jg h w st kn x0 cs n)(h0:inF h w x0)(h6:h<=6)(w6:w<=6):cs.length<=36:=by
 have:=iW (l2:=bJ h w) o.nd fun y hy=>eU.mpr ((o.rch y hy).inF h0)
 rw[eG] at this
 have:h*w<=6*6:=Nat.mul_le_mul h6 w6
 lia
end L2
namespace L2
open PySem PySem.Spec PyProof.Rows
theorem T8{sg:Str}{c:Nat}(h:c∉sg.cps.toList):inS sg c=false:=by
 unfold inS
 rw[PySem.W.occ_nil_of_no sg ⟨#[c]⟩ 1 fun i hi=>?_]
 ·rfl
 ·cases e:Builtin.Str.subAt sg ⟨#[c]⟩ i with
  |false=>rfl
  |true=>
   refine absurd ?_ h
   have e':sg.cps.extract i (i+1)=#[c]:=beq_iff_eq.mp e
   have hm:c∈sg.cps.extract i (i+1):=by rw[e'];simp
   obtain⟨k,hk,e2⟩:=Array.mem_extract_iff_getElem.mp hm
   rw[<- e2]
   exact Array.getElem_mem_toList _
theorem Dk{sg:Str}(h:sg.cps.toList.all (inS sg)=true)(c:Nat):inS sg c=decide (c∈sg.cps.toList):=by
 by_cases hc:c∈sg.cps.toList
 ·rw[decide_eq_true hc];exact List.all_eq_true.mp h c hc
 ·rw[decide_eq_false hc];exact T8 hc
def mL(c:Nat):Bool:=decide (c=35\/(48<=c/\c<=56))
theorem OD(c:Nat):inS "#012345678" c=mL c:=by
 rw[Dk (by decide +kernel)]
 have e:("#012345678" : Str).cps.toList=[35,48,49,50,51,52,53,54,55,56]:=by decide +kernel
 rw[e]
 by_cases h:c<57
 ·exact(by decide +kernel:∀ k∈List.range 57,decide (k∈[35,48,49,50,51,52,53,54,55,56])=mL k) c (List.mem_range.mpr h)
 ·have n1:¬c∈[35,48,49,50,51,52,53,54,55,56]:=fun z=>h ((by decide:∀ k∈[35,48,49,50,51,52,53,54,55,56],k<57) c z)
  have n2:mL c=false:=by unfold mL;exact decide_eq_false (by omega)
  rw[decide_eq_false n1,n2]
theorem Kp(c:Nat):inS "#" c=decide (c=35):=by
 rw[Dk (by decide +kernel)]
 have e:("#" : Str).cps.toList=[35]:=by decide +kernel
 rw[e];simp
theorem sU(x:Str)(lo hi:Option Int):(Txt.slice x lo hi).cps.toList=(x.cps.toList.drop (HT.sIx x.length 0 lo)).take (HT.sIx x.length x.length hi-HT.sIx x.length 0 lo):=by
 have e:Builtin.Str.strSliceIndices lo hi 1 x.length=(List.range (HT.sIx x.length x.length hi-HT.sIx x.length 0 lo)).map (HT.sIx x.length 0 lo+·):=by
  obtain⟨h1,h2,_⟩:=qb lo hi x.length
  rw[<- sliceRange_one,<- h1,<- h2];rfl
 unfold Txt.slice
 rw[e]
 have hb:HT.sIx x.length x.length hi<=x.length:=HT.Mx _ _ (Nat.le_refl _) hi
 have ha:HT.sIx x.length 0 lo<=x.length:=HT.Mx _ _ (Nat.zero_le _) lo
 have hx:x.cps.toList.length=x.length:=Array.length_toList
 split
 ·rename_i hc
  simp only[List.length_map,List.length_range,Bool.and_eq_true,beq_iff_eq] at hc
  have h0:HT.sIx x.length x.length hi-HT.sIx x.length 0 lo=x.length:=hc.2
  by_cases hz:x.length=0
  ·have:x.cps.toList=[]:=List.length_eq_zero_iff.mp (by rw[hx,hz])
   rw[this];simp
  ·have e1:HT.sIx x.length 0 lo=0:=by lia
   rw[h0,e1,List.drop_zero,<- hx,List.take_length]
 ·show(((List.range _).map _).filterMap (x.cps[·]?)).toArray.toList=_
  rw[pick_run]
theorem Ng(x:Str)(n:Nat)(h:n<=x.length):(Txt.slice x none (some (n:Int))).cps.toList=x.cps.toList.take n:=by
 rw[sU,HT.mz,HT.pX,Nat.min_eq_left h,List.drop_zero,Nat.sub_zero]
theorem Em(x:Str)(n:Nat)(h:n<=x.length):(Txt.slice x (some (n:Int)) none).cps.toList=x.cps.toList.drop n:=by
 rw[sU,HT.mz,HT.pX,Nat.min_eq_left h]
 refine List.take_of_length_le ?_
 rw[List.length_drop,Array.length_toList]
 exact Nat.le_refl _
theorem qC(a b:Str):(a++b).cps.toList=a.cps.toList++b.cps.toList:=by
 show(a.cps++b.cps).toList=_
 simp
theorem str_len(z:Str):z.length=z.cps.toList.length:=Array.length_toList.symm
structure Vw(zs:List Str)(w:Nat):Prop extends Rect zs w where
 sg:∀ z∈zs,∀ c∈z.cps.toList,mL c=true
theorem N7{h w:Nat}{st kn:List Cell}(h1:1<=h)(h6:h<=6)(w1:1<=w)(w6:w<=6):Vw (rH h w st kn) w:=by
 have hl:(rH h w st kn).length=h:=by unfold rH;rw[List.length_map,List.length_range]
 refine⟨⟨by lia,by lia,w1,w6,fun z hz=>?_⟩,fun z hz c hc=>?_⟩
 ·obtain⟨r,_,rfl⟩:=List.mem_map.mp hz
  exact GD _ _ _ _ _ _
 ·obtain⟨r,_,rfl⟩:=List.mem_map.mp hz
  unfold nR at hc
  simp only[List.mem_map] at hc
  obtain⟨k,_,rfl⟩:=hc
  unfold El mL
  have:=FJ h w st ((r:Int),(k:Int))
  split
  ·exact decide_eq_true (.inr ⟨by lia,by lia⟩)
  ·exact decide_eq_true (.inl rfl)
def nJ(zs:List Str)(r c:Nat)(s:Str):List Str:=zs.take r++[Txt.slice (zs.getD r Str.empty) none (some (c:Int))++s++Txt.slice (zs.getD r Str.empty) (some ((c:Int)+1)) none]++zs.drop (r+1)
theorem V2{zs:List Str}{w r c:Nat}{s:Str}(v:Vw zs w)(hr:r<zs.length)(hc:c<w)(hs:s.length=1)(hk:∀ k∈s.cps.toList,mL k=true):Vw (nJ zs r c s) w/\(nJ zs r c s).length=zs.length:=by
 have er:=v.toRect.row hr
 have mem:zs.getD r Str.empty∈zs:=by
  have e:zs.getD r Str.empty=zs[r]:=by simp[List.getD_eq_getElem?_getD,hr]
  rw[e];exact List.getElem_mem hr
 have s1:=Ng (zs.getD r Str.empty) c (by lia)
 have s2:(Txt.slice (zs.getD r Str.empty) (some ((c:Int)+1)) none).cps.toList=(zs.getD r Str.empty).cps.toList.drop (c+1):=Em (zs.getD r Str.empty) (c+1) (by lia)
 have Kl:(Txt.slice (zs.getD r Str.empty) none (some (c:Int))++s++Txt.slice (zs.getD r Str.empty) (some ((c:Int)+1)) none).cps.toList=(zs.getD r Str.empty).cps.toList.take c++s.cps.toList++(zs.getD r Str.empty).cps.toList.drop (c+1):=by
  rw[qC,qC,s1,s2]
 have hll:(nJ zs r c s).length=zs.length:=by
  unfold nJ
  rw[List.length_append,List.length_append,List.length_take,List.length_drop,List.length_singleton];lia
 have ln:(zs.getD r Str.empty).cps.toList.length=w:=by rw[<- str_len];exact er
 refine⟨⟨⟨by rw[hll];exact v.ne,by rw[hll];exact v.le,v.w1,v.w6,fun z hz=>?_⟩,fun z hz k hk'=>?_⟩,hll⟩
 ·unfold nJ at hz
  rcases List.mem_append.mp hz with hz|hz
  ·rcases List.mem_append.mp hz with hz|hz
   ·exact v.len z (List.mem_of_mem_take hz)
   ·rw[List.mem_singleton.mp hz,str_len,Kl,List.length_append,List.length_append,List.length_take,List.length_drop,ln,<- str_len,hs];lia
  ·exact v.len z (List.mem_of_mem_drop hz)
 ·unfold nJ at hz
  rcases List.mem_append.mp hz with hz|hz
  ·rcases List.mem_append.mp hz with hz|hz
   ·exact v.sg z (List.mem_of_mem_take hz) k hk'
   ·rw[List.mem_singleton.mp hz,Kl] at hk'
    rcases List.mem_append.mp hk' with q|q
    ·rcases List.mem_append.mp q with q|q
     ·exact v.sg _ mem k (List.mem_of_mem_take q)
     ·exact hk k q
    ·exact v.sg _ mem k (List.mem_of_mem_drop q)
  ·exact v.sg z (List.mem_of_mem_drop hz) k hk'
end L2
namespace L2
open PySem PySem.Spec PyProof.Rows
def vJ(z:Str)(n:Int):Bool:=decide ((z.length:Int)=n)&&z.cps.toList.all (inS "#012345678")
def sW:List Str->Bool
 |[]=>false
 |z::zs=>decide ((z::zs).length<=6)&&decide (1<=z.length/\z.length<=6)&&(z::zs).all fun r=>vJ r z.length
theorem vZ{z:Str}{zs:List Str}(h1:(z::zs).length<=6)(h2:1<=z.length)(h3:z.length<=6):sW (z::zs)=(z::zs).all fun r=>vJ r z.length:=by
 show(decide ((z::zs).length<=6)&&decide (1<=z.length/\z.length<=6)&&_)=_
 rw[decide_eq_true h1,decide_eq_true (And.intro h2 h3)];rfl
theorem Er{z:Str}{zs:List Str}(h1:¬(z::zs).length<=6):sW (z::zs)=false:=by
 show(decide ((z::zs).length<=6)&&_&&_)=_
 rw[decide_eq_false h1];rfl
theorem Es{z:Str}{zs:List Str}(h1:¬(1<=z.length/\z.length<=6)):sW (z::zs)=false:=by
 show(_&&decide (1<=z.length/\z.length<=6)&&_)=_
 rw[decide_eq_false h1,Bool.and_false];rfl
theorem Vw.ok{zs:List Str}{w:Nat}(v:Vw zs w):sW zs=true:=by
 obtain⟨z,zt,rfl,hz⟩:=v.toRect.head
 rw[vZ v.le (by have:=v.w1;lia) (by have:=v.w6;lia),List.all_eq_true]
 intro r hr
 unfold vJ
 rw[decide_eq_true (by rw[v.len r hr,hz]),Bool.true_and,List.all_eq_true]
 intro c hc
 rw[OD];exact v.sg r hr c hc
def rT(l:Addr)(h w:Int):List (Str×V):=gY "width" (.int w) (gY "height" (.int h) (gY "rows" (.ref l) []))
theorem Dh(l:Addr)(h w:Int):(rT l h w).lookup ("rows" : Str)=some (.ref l):=by
 unfold rT;rw[dJ,if_neg (by decide +kernel),dJ,if_neg (by decide +kernel),dJ,if_pos rfl]
theorem uW(l:Addr)(h w:Int):(rT l h w).lookup ("height" : Str)=some (.int h):=by
 unfold rT;rw[dJ,if_neg (by decide +kernel),dJ,if_pos rfl]
theorem yM(l:Addr)(h w:Int):(rT l h w).lookup ("width" : Str)=some (.int w):=by
 unfold rT;rw[dJ,if_pos rfl]
structure fY(C:Addr)(H:Hp)(x:Addr)(zs:List Str)(w:Nat):Prop where
 ob:∃ dx l,H x=some (.ins C dx (rT l zs.length w))/\H l=some (.lst (zs.map V.str))
 vw:Vw zs w
theorem fY.mono{C:Addr}{H H':Hp}{x:Addr}{zs:List Str}{w:Nat}(v:fY C H x zs w)(s:Same H H'):fY C H' x zs w:=let ⟨dx,l,a,b⟩:=v.ob;⟨⟨dx,l,s _ _ a,s _ _ b⟩,v.vw⟩
def aX(zs:List Str)(w:Nat)(x:Cell):Bool:=decide (inF zs.length w x)&&decide (codeAt zs (x.1.toNat,x.2.toNat)=35)
def fL(zs:List Str)(w:Nat):List Cell:=(bJ zs.length w).filter (aX zs w)
theorem iD(zs:List Str)(w:Nat):fL zs w=bx zs w "#":=by
 unfold fL bx bJ
 rw[List.filter_flatMap]
 have key:∀ r∈List.range zs.length,((List.range w).map fun c:Nat=>((r:Int),(c:Int))).filter (aX zs w)=((List.range w).filter fun c=>inS "#" (codeAt zs (r,c))).map fun c:Nat=>((r:Int),(c:Int)):=by
  intro r hr
  rw[List.filter_map]
  congr 1
  refine List.filter_congr fun c hc=>?_
  rw[List.mem_range] at hr hc
  show aX zs w ((r:Int),(c:Int))=_
  unfold aX
  rw[Kp,decide_eq_true (show inF zs.length w ((r:Int),(c:Int)) from⟨⟨by show(0:Int)<=(r:Int);lia,by show(r:Int)<zs.length;lia⟩,⟨by show(0:Int)<=(c:Int);lia,by show(c:Int)<w;lia⟩⟩),Bool.true_and]
  rfl
 have go:∀ l:List Nat,(∀ r∈l,r∈List.range zs.length)->l.flatMap (fun r:Nat=>((List.range w).map fun c:Nat=>((r:Int),(c:Int))).filter (aX zs w))=l.flatMap (fun r:Nat=>((List.range w).filter fun c=>inS "#" (codeAt zs (r,c))).map fun c:Nat=>((r:Int),(c:Int))):=by
  intro l
  induction l with
  |nil=>intro _;rfl
  |cons a l ih=>intro h;rw[List.flatMap_cons,List.flatMap_cons,key a (h a List.mem_cons_self),ih fun r hr=>h r (List.mem_cons_of_mem _ hr)]
 exact go _ fun r hr=>hr
theorem vo{zs:List Str}{w:Nat}{x:Cell}:x∈fL zs w↔aX zs w x=true:=by
 unfold fL
 rw[List.mem_filter,eU]
 constructor
 ·exact fun h=>h.2
 ·intro h
  refine⟨?_,h⟩
  unfold aX at h
  rw[Bool.and_eq_true] at h
  exact of_decide_eq_true h.1
def tW(w:Nat)(x:Cell)(r:Int):List Cell:=((List.range ((min (x.2+2) w)-(max (x.2-1) 0)).toNat).map fun k:Nat=>(r,max (x.2-1) 0+(k:Int))).filter fun y=>!decide (y=x)
def jW(w:Nat)(x:Cell)(lo:Int)(n:Nat):List Cell:=(List.range n).flatMap fun k:Nat=>tW w x (lo+(k:Int))
def DR(h w:Nat)(x:Cell):List Cell:=jW w x (max (x.1-1) 0) ((min (x.1+2) h)-(max (x.1-1) 0)).toNat
theorem Jc:∀ h∈List.range 7,∀ w∈List.range 7,∀ r∈List.range h,∀ c∈List.range w,DR h w ((r:Int),(c:Int))=aZ h w ((r:Int),(c:Int)):=by decide +kernel
theorem LC{h w:Nat}{x:Cell}(h6:h<=6)(w6:w<=6)(hx:inF h w x):DR h w x=aZ h w x:=by
 obtain⟨⟨a,b⟩,⟨c,d⟩⟩:=hx
 have:=Jc h (List.mem_range.mpr (by lia)) w (List.mem_range.mpr (by lia)) x.1.toNat (List.mem_range.mpr (by lia)) x.2.toNat (List.mem_range.mpr (by lia))
 have e:(((x.1.toNat:Nat):Int),((x.2.toNat:Nat):Int))=x:=Prod.ext (by show((x.1.toNat:Nat):Int)=x.1;lia) (by show((x.2.toNat:Nat):Int)=x.2;lia)
 rw[e] at this;exact this
def aH(zs:List Str)(w:Nat)(x:Cell):List Cell:=(aZ zs.length w x).filter fun y=>!aX zs w y
def aB(zs:List Str)(w:Nat)(x:Cell):List Cell:=(aZ zs.length w x).filter fun y=>aX zs w y
theorem Ot(zs:List Str)(w:Nat):((fL zs w).filter fun x=>decide (0<(aH zs w x).length))=(bx zs w "#").filter fun x=>decide (0<((aZ zs.length w x).filter fun y=>!decide (y∈bx zs w "#")).length):=by
 rw[iD]
 refine List.filter_congr fun x _=>?_
 unfold aH
 have:((aZ zs.length w x).filter fun y=>!aX zs w y)=(aZ zs.length w x).filter fun y=>!decide (y∈bx zs w "#"):=by
  refine List.filter_congr fun y _=>?_
  rw[<- iD]
  congr 1
  by_cases h:aX zs w y=true
  ·rw[h,decide_eq_true (vo.mpr h)]
  ·rw[Bool.eq_false_iff.mpr h,decide_eq_false fun z=>h (vo.mp z)]
 rw[this]
end L2
namespace L2
open PySem PySem.Spec PyProof.Rows PySem.W
section
variable{prog:Program}{w:World}{A:Around}{E:Value->Shared->Prop}{s:Shared}
abbrev Keeps(h h':Heap):Prop:=∀ b o,h.get? b=some o->h'.get? b=some o
end
def bF(a b:Cell):Prop:=a.1<b.1\/(a.1=b.1/\a.2<b.2)
instance(a b:Cell):Decidable (bF a b):=by unfold bF;infer_instance
section
variable{X:Cx}
theorem oY{pins:List (Addr×Obj)}{σ:L2.St}{H:Hp}{s:Shared}{v:V}{u:Value}{c:Cell}(I:Inv X pins σ H s)(d:Den X.K H v (ao c))(r:RelV v u):∃(a:Addr)(o:Obj)(t t':Tok)(n:Nat),u=.ref a/\s.heap.get? a=some o/\o.cls=.type "tuple" /\ o.data=.seq #[.int c.1 t,.int c.2 t'] n:=by
 obtain⟨a,rfl,ht,_⟩:=dD d
 cases r
 obtain⟨its,rv,⟨o,e,hc,n,hd⟩,_⟩:=I.tuple ht
 obtain⟨u1,u2,rfl,⟨t,rfl⟩,⟨t',rfl⟩⟩:=vals2 rv
 exact⟨a,o,t,t',n,rfl,e,hc,hd⟩
end
end L2
namespace L2
open PySem PySem.Spec PyProof.Rows
section
variable{X:Cx}{K:PySem.W.Frag}
def Ru(K:PySem.W.Frag):List V->Hp->VK->Prop:=fun xs H Q=>∃ x c cv,xs=[x,c]/\S9 c=some cv/\∃(a:Addr)(ys:List V)(b:Bool),x=.ref a /\
 ((SqT K H a ys/\PySem.W.kitOne K (.type "tuple") cv=some b)\/(SqL K H a ys/\PySem.W.kitOne K (.type "list") cv=some b))/\Q (.bl b) H
theorem Hl:cA X (.builtin "isinstance") (Ru X.K):=by
 intro pins s σ H xs us Q I r h
 obtain⟨x,c,cv,rfl,hc,a,ys,b,rfl,h,q⟩:=h
 obtain⟨u,u',rfl,ru,rc⟩:=vals2 r
 have e:=Fo hc rc
 subst e
 cases ru
 rcases h with⟨ht,hk⟩|⟨ht,hk⟩
 ·obtain⟨its,_,⟨o,e1,e2,_⟩,_⟩:=I.tuple ht
  exact PySem.W.kia_one PySem.W.kitx_tuple I.kIn ⟨o,e1,e2⟩ hk (by intro z;cases z) fun tk=>⟨.bl b,H,I.tok tk,rfl,q⟩
 ·obtain⟨its,_,⟨o,n,e1,e2,_⟩,_⟩:=I.list ht
  exact PySem.W.kia_one PySem.W.kitx_list I.kIn ⟨o,e1,e2⟩ hk (by intro z;cases z) fun tk=>⟨.bl b,H,I.tok tk,rfl,q⟩
theorem vd(hK:X.K=K:=by rfl):cA X (.builtin "isinstance") (fun xs H Q=>WD K xs H Q\/Ru K xs H Q):=by subst hK;exact JK.or Hl
end
end L2
namespace L2
open PySem PySem.Spec PyProof.Rows PySem.W
structure fJ{α:Type}(lt:α->α->Bool):Prop where
 sZ:∀ a b,lt a b=true->lt b a=false
 tr:∀ a b c,lt b a=false->lt c b=false->lt c a=false
 anti:∀ a b,lt a b=false->lt b a=false->a=b
theorem fJ.refl{α:Type}{lt:α->α->Bool}(o:fJ lt)(a:α):lt a a=false:=by
 cases h:lt a a
 ·rfl
 ·rw[<- h];exact o.sZ a a h▸rfl
structure Good(N:Nat)(p:Array Nat):Prop where
 perm:p.toList.Perm (List.range N)
theorem Good.size{N:Nat}{p:Array Nat}(g:Good N p):p.size=N:=by
 have:=g.perm.length_eq
 simpa using this
theorem Good.lt{N:Nat}{p:Array Nat}(g:Good N p)(h:1<=N)(k:Nat):p.getD k 0<N:=by
 by_cases hk:k<p.size
 ·have:p.getD k 0∈p.toList:=by
   rw[Array.getD_eq_getD_getElem?,Array.getElem?_eq_getElem hk]
   exact Array.getElem_mem_toList hk
  exact List.mem_range.mp (g.perm.mem_iff.mp this)
 ·rw[Array.getD_eq_getD_getElem?,Array.getElem?_eq_none (by lia)]
  exact h
theorem swap_perm{p:Array Nat}{i j:Nat}:(p.swapIfInBounds i j).toList.Perm p.toList:=by
 unfold Array.swapIfInBounds
 split
 ·split
  ·exact(Array.swap_perm _ _).toList
  ·exact .refl _
 ·exact .refl _
theorem BK{p:Array Nat}{i j k:Nat}(hi:i<p.size)(hj:j<p.size):(p.swapIfInBounds i j).getD k 0=if k=i then p.getD j 0 else if k=j then p.getD i 0 else p.getD k 0:=by
 unfold Array.swapIfInBounds
 rw[dif_pos hi,dif_pos hj]
 simp only[Array.getD_eq_getD_getElem?,Array.getElem?_swap]
 by_cases h1:k=i
 ·subst h1
  by_cases h2:k=j
  ·subst h2;simp[hi]
  ·simp[hi,hj,h2,Ne.symm h2]
 ·by_cases h2:k=j
  ·subst h2;simp[hi,hj,h1]
  ·simp[h1,h2,Ne.symm h1,Ne.symm h2]
theorem qN{g h:Nat->Nat}:∀(ks:List Nat)(p:Array Nat),(ks.foldl (fun a k=>a.swapIfInBounds (g k) (h k)) p).toList.Perm p.toList
 |[],p=>.refl _
 |k::ks,p=>by
  rw[List.foldl_cons]
  exact(qN ks _).trans swap_perm
theorem mj{N:Nat}{p:Array Nat}{i j:Nat}(g:Good N p):Good N (kas_rev p i j):=⟨(qN _ _).trans g.perm⟩
theorem JG{N:Nat}{p:Array Nat}{i j:Nat}(g:Good N p):Good N (bubble p i j):=⟨(qN _ _).trans g.perm⟩
theorem Tw{i j d k:Nat}(hd:2*(d+1)<=j-i)(h1:k≠i+d)(h2:k≠j-1-d):(i<=k/\k<i+(d+1)↔i<=k/\k<i+d)/\(j-(d+1)<=k/\k<j↔j-d<=k/\k<j):=⟨by omega,by omega⟩
theorem Pu{p:Array Nat}{i j:Nat}(hj:j<=p.size):∀ d,2*d<=j-i->∀ k,(mirror p i j d).getD k 0=if i<=k/\k<i+d then p.getD (i+j-1-k) 0 else if j-d<=k/\k<j then p.getD (i+j-1-k) 0 else p.getD k 0:=by
 intro d
 induction d with
 |zero=>
  intro _ k
  rw[if_neg (fun z=>Nat.lt_irrefl _ (Nat.lt_of_le_of_lt z.1 z.2)),if_neg (fun z=>Nat.lt_irrefl _ (Nat.lt_of_le_of_lt z.1 z.2))];rfl
 |succ d ih=>
  intro hd k
  have e:mirror p i j (d+1)=(mirror p i j d).swapIfInBounds (i+d) (j-1-d):=by
   unfold mirror;rw[List.range_succ,List.foldl_append];rfl
  have sz:(mirror p i j d).size=p.size:=mirror_size _ _ _ _
  have b1:i+d<j:=by clear ih e sz hj;lia
  have b2:j-1-d<j:=by clear ih e sz hj;lia
  rw[e,BK (by rw[sz];exact Nat.lt_of_lt_of_le b1 hj) (by rw[sz];exact Nat.lt_of_lt_of_le b2 hj)]
  have ih':=ih (Nat.le_trans (Nat.mul_le_mul_left 2 (Nat.le_succ d)) hd)
  clear ih e sz hj
  by_cases h1:k=i+d
  ·subst h1
   rw[if_pos rfl,ih',if_neg (by lia),if_neg (by lia),if_pos (by lia)]
   congr 1;lia
  ·rw[if_neg h1]
   by_cases h2:k=j-1-d
   ·subst h2
    rw[if_pos rfl,ih',if_neg (by lia),if_neg (by lia),if_neg (by lia),if_pos (by lia)]
    congr 1;lia
   ·obtain⟨c1,c2⟩:=Tw hd h1 h2
    rw[if_neg h2,ih']
    simp only[c1,c2]
theorem z8{p:Array Nat}{i j:Nat}(hj:j<=p.size)(k:Nat):(kas_rev p i j).getD k 0=if i<=k/\k<j then p.getD (i+j-1-k) 0 else p.getD k 0:=by
 unfold kas_rev
 rw[Pu hj _ (by lia)]
 clear hj
 by_cases h:i<=k/\k<j
 ·rw[if_pos h]
  by_cases h1:i<=k/\k<i+(j-i) / 2
  ·rw[if_pos h1]
  ·rw[if_neg h1]
   by_cases h2:j-(j-i) / 2<=k/\k<j
   ·rw[if_pos h2]
   ·rw[if_neg h2]
    congr 1
    lia
 ·rw[if_neg h,if_neg (by lia),if_neg (by lia)]
theorem Oe{p:Array Nat}{r:Nat}(hr:r<p.size):∀ d,d<=r->∀ k,(bubble p r d).getD k 0=if k=r-d then p.getD r 0 else if r-d<k/\k<=r then p.getD (k-1) 0 else p.getD k 0:=by
 intro d
 induction d with
 |zero=>
  intro _ k
  show p.getD k 0=_
  by_cases h:k=r
  ·rw[if_pos (by lia),h]
  ·rw[if_neg (by lia),if_neg (by lia)]
 |succ d ih=>
  intro hd k
  have e:bubble p r (d+1)=(bubble p r d).swapIfInBounds (r-d) (r-d-1):=by
   unfold bubble;rw[List.range_succ,List.foldl_append];rfl
  have sz:(bubble p r d).size=p.size:=bubble_size _ _ _
  rw[e,BK (by lia) (by lia)]
  have ih':=ih (by lia)
  by_cases h1:k=r-d
  ·rw[if_pos h1,ih',if_neg (by lia),if_neg (by lia),if_neg (by lia),if_pos (by lia)]
   congr 1;lia
  ·rw[if_neg h1]
   by_cases h2:k=r-d-1
   ·rw[if_pos h2,ih',if_pos rfl,if_pos (by lia)]
   ·rw[if_neg h2,ih',if_neg h1]
    by_cases h3:r-d<k/\k<=r
    ·rw[if_pos h3,if_neg (by lia),if_pos (by lia)]
    ·rw[if_neg h3,if_neg (by lia),if_neg (by lia)]
section
variable{α:Type}{lt:α->α->Bool}{f:Nat->α}{N:Nat}{s:Shared}{cmp:Nat->Nat->(Bool->Shared->Prop)->Shared->Prop}
def Ky(f:Nat->α)(p:Array Nat)(i:Nat):α:=f (p.getD i 0)
def jm(lt:α->α->Bool)(f:Nat->α)(p:Array Nat)(n:Nat):Prop:=∀ i,i+1<n->lt (Ky f p (i+1)) (Ky f p i)=false
def Jw(lt:α->α->Bool)(f:Nat->α)(p:Array Nat)(n:Nat):Prop:=∀ i,i+1<n->lt (Ky f p i) (Ky f p (i+1))=false
theorem jm.le(o:fJ lt){p:Array Nat}{n:Nat}(u:jm lt f p n):∀ d i,i+d<n->lt (Ky f p (i+d)) (Ky f p i)=false:=by
 intro d
 induction d with
 |zero=>intro i _;exact o.refl _
 |succ d ih=>intro i h;exact o.tr _ _ _ (ih i (by omega)) (u (i+d) (by omega))
def Asks(lt:α->α->Bool)(f:Nat->α)(N:Nat)(s:Shared)(cmp:Nat->Nat->(Bool->Shared->Prop)->Shared->Prop):Prop:=∀ i j (C:Bool->Shared->Prop),i<N->j<N->C (lt (f i) (f j)) s->cmp i j C s
theorem wp_ask{β:Type}{Q:β->Shared->Prop}{k:Bool->KasT β}{i j:Nat}(hc:Asks lt f N s cmp)(hi:i<N)(hj:j<N)(h:(k (lt (f i) (f j))).kasWp cmp Q s):(KasT.ask i j k).kasWp cmp Q s:=
 hc i j _ hi hj h
theorem NZ(hc:Asks lt f N s cmp){p:Array Nat}(g:Good N p)(hN:1<=N){Q:Nat->Shared->Prop}:∀(fu n:Nat),n+fu<=N->1<=n->jm lt f p n ->
  (∀ m,n<=m->m<=n+fu->jm lt f p m->(m<n+fu->lt (Ky f p m) (Ky f p (m-1))=true)->Q m s)->(kas_asc p fu n).kasWp cmp Q s:=by
 intro fu
 induction fu with
 |zero=>
  intro n h h1 u q
  rw[kas_asc.eq_1]
  exact q n (Nat.le_refl _) (Nat.le_refl _) u (fun z=>by lia)
 |succ fu ih=>
  intro n h h1 u q
  rw[kas_asc.eq_2]
  refine wp_ask hc (g.lt hN _) (g.lt hN _) ?_
  by_cases hb:lt (Ky f p n) (Ky f p (n-1))=true
  ·have hb':lt (f (p.getD n 0)) (f (p.getD (n-1) 0))=true:=hb
   rw[hb',if_pos rfl]
   exact q n (Nat.le_refl _) (by lia) u (fun _=>hb)
  ·have hb':lt (f (p.getD n 0)) (f (p.getD (n-1) 0))=false:=by
    cases h':lt (f (p.getD n 0)) (f (p.getD (n-1) 0))
    ·rfl
    ·exact absurd h' hb
   rw[hb',if_neg Bool.false_ne_true]
   refine ih (n+1) (by lia) (by lia) (fun i hi=>?_) (fun m h2 h3 u' q'=>q m (by lia) (by lia) u' fun z=>q' (by lia))
   by_cases h4:i+1<n
   ·exact u i h4
   ·have:i=n-1:=by lia
    subst this
    have e:n-1+1=n:=by lia
    rw[e];exact hb'
theorem bool_no{b:Bool}(h:¬b=true):b=false:=by cases b<;>simp_all
def Eqs(f:Nat->α)(p:Array Nat)(a b:Nat):Prop:=∀ i,a<=i->i<b->Ky f p i=Ky f p (b-1)
theorem pO{p:Array Nat}{a b:Nat}(hb:b<=p.size)(e:Eqs f p a b)(i:Nat):Ky f (kas_rev p a b) i=Ky f p i:=by
 unfold Ky
 rw[z8 hb]
 by_cases h:a<=i/\i<b
 ·rw[if_pos h]
  exact(e (a+b-1-i) (by omega) (by omega)).trans (e i h.1 h.2).symm
 ·rw[if_neg h]
theorem R9(o:fJ lt)(hc:Asks lt f N s cmp)(hN:1<=N){Q:Array Nat×Nat×Nat->Shared->Prop}:∀(fu:Nat)(p:Array Nat)(n q:Nat),Good N p->n+fu<=N->q+1<=n->Jw lt f p n->Eqs f p (n-(q+1)) n ->
  (∀ p' n' q',Good N p'->n<=n'->n'<=N->q'+1<=n'->Jw lt f p' n'->Eqs f p' (n'-(q'+1)) n'->Q (p',n',q') s)->(kas_desc fu p n q).kasWp cmp Q s:=by
 intro fu
 induction fu with
 |zero=>
  intro p n q g h h1 d e hq
  rw[kas_desc.eq_1]
  exact hq p n q g (Nat.le_refl _) (by lia) h1 d e
 |succ fu ih=>
  intro p n q g h h1 d e hq
  rw[kas_desc.eq_2]
  have sz:=g.size
  refine wp_ask hc (g.lt hN _) (g.lt hN _) ?_
  by_cases hb:lt (f (p.getD n 0)) (f (p.getD (n-1) 0))=true
  ·rw[hb,if_pos rfl]
   have dn:∀ p':Array Nat,(∀ i,Ky f p' i=Ky f p i)->Jw lt f p' (n+1):=fun p' ep i hi=>by
    rw[ep,ep]
    by_cases h4:i+1<n
    ·exact d i h4
    ·have:i=n-1:=by lia
     subst this
     have e1:n-1+1=n:=by lia
     rw[e1];exact o.sZ _ _ hb
   have eqs:∀ p':Array Nat,Eqs f p' (n+1-(0+1)) (n+1):=fun p' i h1 h2=>by
    have:i=n+1-1:=by lia
    rw[this]
   by_cases hq0:q>0
   ·rw[if_pos hq0]
    exact ih _ _ _ (mj g) (by lia) (by lia) (dn _ (pO (by lia) e)) (eqs _) fun p' n' q' a1 a2=>hq p' n' q' a1 (by lia)
   ·rw[if_neg hq0]
    exact ih _ _ _ g (by lia) (by lia) (dn _ fun _=>rfl) (eqs _) fun p' n' q' a1 a2=>hq p' n' q' a1 (by lia)
  ·have hb0:=bool_no hb
   rw[hb0,if_neg Bool.false_ne_true]
   refine wp_ask hc (g.lt hN _) (g.lt hN _) ?_
   by_cases hd:lt (f (p.getD (n-1) 0)) (f (p.getD n 0))=true
   ·rw[hd,if_pos rfl]
    exact hq p n q g (Nat.le_refl _) (by lia) h1 d e
   ·have hd0:=bool_no hd
    rw[hd0,if_neg Bool.false_ne_true]
    have ek:Ky f p n=Ky f p (n-1):=o.anti _ _ hb0 hd0
    refine ih _ _ _ g (by lia) (by lia) (fun i hi=>?_) (fun i h3 h4=>?_) fun p' n' q' a1 a2=>hq p' n' q' a1 (by lia)
    ·by_cases h4:i+1<n
     ·exact d i h4
     ·have:i=n-1:=by lia
      subst this
      have e1:n-1+1=n:=by lia
      rw[e1];exact hd0
    ·have e2:n+1-1=n:=by lia
     rw[e2]
     by_cases h5:i=n
     ·rw[h5]
     ·rw[ek];exact e i (by lia) (by lia)
theorem BW(hc:Asks lt f N s cmp)(hN:1<=N){Q:Nat×Array Nat->Shared->Prop}{p:Array Nat}{n:Nat}(g:Good N p)(h1:1<=n)(hn:n<=N)(d:Jw lt f p n)(hq:∀ m p',Good N p'->1<=m->m<=N->jm lt f p' m->Q (m,p') s):(kas_tail3 n N p).kasWp cmp Q s:=by
 unfold kas_tail3
 rw[KasT.kasWp_bind]
 have sz:=g.size
 refine NZ hc (mj g) hN _ _ (by lia) h1 (fun i hi=>?_) fun m a b u _=>hq m _ (mj g) (by lia) (by lia) u
 unfold Ky
 rw[z8 (by lia),z8 (by lia),if_pos (by lia),if_pos (by lia)]
 have:=d (n-1-(i+1)) (by lia)
 unfold Ky at this
 have e1:0+n-1-(i+1)=n-1-(i+1):=by lia
 have e2:0+n-1-i=n-1-(i+1)+1:=by lia
 rw[e1,e2];exact this
theorem sX(o:fJ lt)(hc:Asks lt f N s cmp)(hN:1<=N){Q:Nat×Array Nat->Shared->Prop}{p:Array Nat}{n:Nat}(g:Good N p)(hn:n+1<=N)(d:Jw lt f p (n+1))(hq:∀ m p',Good N p'->1<=m->m<=N->jm lt f p' m->Q (m,p') s):(kas_descPart n N p).kasWp cmp Q s:=by
 unfold kas_descPart
 rw[KasT.kasWp_bind]
 refine R9 o hc hN _ _ _ _ g (by lia) (by lia) d (fun i a b=>?_) fun p' n' q' g' a b c d' e'=>?_
 ·have:i=n+1-1:=by lia
  rw[this]
 ·have sz:=g'.size
  dsimp only
  by_cases h:q'>0
  ·rw[if_pos h]
   refine BW hc hN (mj g') (by lia) b (fun i hi=>?_) hq
   rw[pO (by lia) e',pO (by lia) e']
   exact d' i hi
  ·rw[if_neg h]
   exact BW hc hN g' (by lia) b d' hq
theorem w5(o:fJ lt)(hc:Asks lt f N s cmp)(hN:1<=N){Q:Nat×Array Nat->Shared->Prop}{p:Array Nat}(g:Good N p)(hq:∀ m p',Good N p'->1<=m->m<=N->jm lt f p' m->Q (m,p') s):(kas_count N p).kasWp cmp Q s:=by
 unfold kas_count
 rw[KasT.kasWp_bind]
 have sz:=g.size
 refine NZ hc g hN _ _ (by lia) (Nat.le_refl _) (fun i hi=>by lia) fun m a b u l=>?_
 by_cases hm:m=N
 ·rw[if_pos (by simpa using hm)]
  exact hq m p g a (by lia) u
 ·rw[if_neg (by simpa using hm)]
  have hl:=l (by lia)
  by_cases h1:m>1
  ·rw[if_pos h1]
   refine wp_ask hc (g.lt hN _) (g.lt hN _) ?_
   by_cases hb:lt (f (p.getD 0 0)) (f (p.getD (m-1) 0))=true
   ·rw[hb,if_pos rfl]
    exact hq m p g a (by lia) u
   ·have hb0:=bool_no hb
    rw[hb0,if_neg Bool.false_ne_true]
    have e:Eqs f p 0 m:=fun i _ hi=>by
     have u1:=u.le o i 0 (by lia)
     rw[Nat.zero_add] at u1
     have u2:=u.le o (m-1-i) i (by lia)
     have e1:i+(m-1-i)=m-1:=by lia
     rw[e1] at u2
     have hb1:lt (Ky f p 0) (Ky f p (m-1))=false:=hb0
     exact o.anti _ _ (o.tr _ _ _ hb1 u1) u2
    refine sX o hc hN (mj g) (by lia) (fun i hi=>?_) hq
    rw[pO (by lia) e,pO (by lia) e]
    by_cases h4:i+1<m
    ·rw[e i (by lia) (by lia),e (i+1) (by lia) h4];exact o.refl _
    ·have:i=m-1:=by lia
     subst this
     have e1:m-1+1=m:=by lia
     rw[e1];exact o.sZ _ _ hl
  ·rw[if_neg h1]
   refine sX o hc hN g (by lia) (fun i hi=>?_) hq
   have:i=m-1:=by lia
   subst this
   have e1:m-1+1=m:=by lia
   rw[e1];exact o.sZ _ _ hl
theorem O4(o:fJ lt)(hc:Asks lt f N s cmp)(hN:1<=N){Q:Nat->Shared->Prop}{p:Array Nat}{k:Nat}(g:Good N p)(u:jm lt f p k):∀(fu l r:Nat),l<=r->r<=k->r-l<=fu->(∀ i,i<l->lt (Ky f p k) (Ky f p i)=false)->(∀ i,r<=i->i<k->lt (Ky f p k) (Ky f p i)=true) ->
  (∀ m,m<=k->(∀ i,i<m->lt (Ky f p k) (Ky f p i)=false)->(∀ i,m<=i->i<k->lt (Ky f p k) (Ky f p i)=true)->Q m s)->(kas_place p k fu l r).kasWp cmp Q s:=by
 intro fu
 induction fu with
 |zero=>
  intro l r h1 h2 h3 lo hi hq
  rw[kas_place.eq_1]
  have:l=r:=by lia
  subst this
  exact hq l h2 lo hi
 |succ fu ih=>
  intro l r h1 h2 h3 lo hi hq
  rw[kas_place.eq_2]
  by_cases h:l>=r
  ·rw[if_pos h]
   have:l=r:=by lia
   subst this
   exact hq l h2 lo hi
  ·rw[if_neg h]
   refine wp_ask hc (g.lt hN _) (g.lt hN _) ?_
   by_cases hb:lt (f (p.getD k 0)) (f (p.getD ((l+r) / 2) 0))=true
   ·rw[hb,if_pos rfl]
    refine ih l ((l+r) / 2) (by lia) (by lia) (by lia) lo (fun i h4 h5=>?_) hq
    by_cases hr:r<=i
    ·exact hi i hr h5
    ·by_cases hx:lt (Ky f p k) (Ky f p i)=true
     ·exact hx
     ·have u1:=u.le o (i-(l+r) / 2) ((l+r) / 2) (by lia)
      have e1:(l+r) / 2+(i-(l+r) / 2)=i:=by lia
      rw[e1] at u1
      have:=o.tr _ _ _ u1 (bool_no hx)
      have hb1:lt (Ky f p k) (Ky f p ((l+r) / 2))=true:=hb
      rw[hb1] at this;cases this
   ·have hb0:=bool_no hb
    rw[hb0,if_neg Bool.false_ne_true]
    refine ih ((l+r) / 2+1) r (by lia) h2 (by lia) (fun i h4=>?_) hi hq
    have u1:=u.le o ((l+r) / 2-i) i (by lia)
    have e1:i+((l+r) / 2-i)=(l+r) / 2:=by lia
    rw[e1] at u1
    exact o.tr _ _ _ u1 hb0
theorem Et(o:fJ lt)(hc:Asks lt f N s cmp)(hN:1<=N){Q:Array Nat->Shared->Prop}:∀(fu:Nat)(p:Array Nat)(n:Nat),Good N p->n+fu=N->jm lt f p n->(∀ p',Good N p'->jm lt f p' N->Q p' s)->(kas_bin fu p n).kasWp cmp Q s:=by
 intro fu
 induction fu with
 |zero=>
  intro p n g h u hq
  rw[kas_bin.eq_1]
  have:n=N:=by lia
  subst this
  exact hq p g u
 |succ fu ih=>
  intro p n g h u hq
  rw[kas_bin.eq_2,KasT.kasWp_bind]
  have sz:=g.size
  refine O4 o hc hN g u _ _ _ (Nat.zero_le _) (Nat.le_refl _) (by lia) (fun i z=>by lia) (fun i a b=>by lia) fun m hm lo hi=>?_
  refine ih _ _ (JG g) (by lia) (fun i hi'=>?_) hq
  have K':∀ j,Ky f (bubble p n (n-m)) j=if j=m then Ky f p n else if m<j/\j<=n then Ky f p (j-1) else Ky f p j:=by
   intro j
   unfold Ky
   rw[Oe (by lia) _ (by lia)]
   have e1:n-(n-m)=m:=by lia
   rw[e1]
   by_cases h1:j=m
   ·rw[if_pos h1,if_pos h1]
   ·rw[if_neg h1,if_neg h1]
    by_cases h2:m<j/\j<=n
    ·rw[if_pos h2,if_pos h2]
    ·rw[if_neg h2,if_neg h2]
  rw[K',K']
  by_cases h1:i+1<m
  ·rw[if_neg (by lia),if_neg (by lia),if_neg (by lia),if_neg (by lia)]
   exact u i (by lia)
  ·by_cases h2:i+1=m
   ·rw[if_pos h2,if_neg (by lia),if_neg (by lia)]
    exact lo i (by lia)
   ·by_cases h3:i=m
    ·rw[if_neg (by lia),if_pos (by lia),if_pos h3]
     have e1:i+1-1=i:=by lia
     rw[e1]
     exact o.sZ _ _ (hi i (by lia) (by lia))
    ·rw[if_neg (by lia),if_pos (by lia),if_neg h3,if_pos (by lia)]
     have:=u (i-1) (by lia)
     have e1:i+1-1=i-1+1:=by lia
     rw[e1];exact this
theorem Rb(o:fJ lt)(hc:Asks lt f N s cmp)(hN:1<=N){Q:Array Nat->Shared->Prop}(hq:∀ p,Good N p->jm lt f p N->Q p s):(kas_sort N).kasWp cmp Q s:=by
 unfold kas_sort
 rw[KasT.kasWp_bind]
 refine w5 o hc hN ⟨.refl _⟩ fun m p' g h1 hm u=>?_
 dsimp only
 by_cases h:m<N
 ·rw[if_pos h]
  have e:max m 1=m:=by lia
  rw[e]
  exact Et o hc hN _ _ _ g (by lia) u hq
 ·rw[if_neg h]
  have:m=N:=by lia
  subst this
  exact hq p' g u
end
end L2
namespace L2
open PySem PySem.Spec PyProof.Rows PySem.W
section
variable{prog:Program}{w:World}{A:Around}{E:Value->Shared->Prop}{s:Shared}{α:Type}
structure wF(prog:Program)(w:World)(h:Heap)(vs:List Value)(lt:α->α->Bool)(f:Nat->α):Prop where
 ex:2<=vs.length->∃ κ:SortKind,(∀(A':Around)(E':Value->Shared->Prop)(s':Shared)(Q':SortKind->Shared->Prop),Keeps h s'.heap->Q' κ s'->wpAny (model prog w) A' (keyKind' vs.toArray) Q' E' s') /\
  ∀(A':Around)(s':Shared)(i j:Nat)(C:Bool->Shared->Prop),A'.units+2<cLine->Keeps h s'.heap->i<vs.length->j<vs.length->C (lt (f i) (f j)) s'->wpAny (model prog w) A' (keyLt' κ (vs.getD i Value.none) (vs.getD j Value.none)) C (fun _ _=>False) s'
def byP(vs:List Value)(p:Array Nat):List Value:=p.toList.map fun i=>vs.getD i Value.none
theorem uz{a:Addr}{vs:List Value}{n:Nat}{h0:Heap}{lt:α->α->Bool}{f:Nat->α}{P:PySem.Fin->Shared->Prop}(o:fJ lt)(hu:A.units+2<cLine)(hr:wF prog w h0 vs lt f)(h64:vs.length<64) (ho:s.heap.get? a=some (seqObj "list" vs.toArray n)) (hk:∀ b o,h0.get? b=some o->s.heap.get? b=some o/\b≠a)
  (h:∀ p,Good vs.length p->jm lt f p vs.length->P (.done (.ret .none)) { s with heap:=sortedHeap s.heap a vs (byP vs p).toArray }):wpAny (model prog w) A (Builtin.«list.sort» ⟨[.ref a],[]⟩) P E s:=by
 rw[list_sort_plain]
 have ha:a<s.heap.objs.size:=Heap.lt_size ho
 have hz:vs.length<=sizeLine:=by rw[sizeLine_eq];lia
 refine wpAny_bind (listItems_at ho rfl (wpAny_bind (listUpdate_at ho rfl ?_ (by show vs.toArray.size<=_;rw[List.size_toArray];lia) (by show(#[]:Array Value).size<=_;simp))))
 have ho1:=get?_update_seq ho (fun _=>#[])
 refine wpAny_bind (seqEpoch_at ho1 rfl (wpAny_bind (wpAny_newTuple (wpAny_bind (wpAny_newList (wpAny_holding ?_) (by simp))) (by simpa using hz))))
 show wpAny (model prog w) A _ P E { s with heap:=((s.heap.update a (Obj.mapSeq fun _=>#[])).push (seqObj "tuple" vs.toArray 0)).push (seqObj "list" #[] 0) }
 have ho6:(((s.heap.update a (Obj.mapSeq fun _=>#[])).push (seqObj "tuple" vs.toArray 0)).push (seqObj "list" #[] 0)).get? a=some _:=Heap.get?_push_of_some _ (Heap.get?_push_of_some _ ho1)
 have kp:Keeps h0 (((s.heap.update a (Obj.mapSeq fun _=>#[])).push (seqObj "tuple" vs.toArray 0)).push (seqObj "list" #[] 0)):=fun b o e=>by
  obtain⟨e1,e2⟩:=hk b o e
  refine Heap.get?_push_of_some _ (Heap.get?_push_of_some _ ?_)
  rw[Heap.get?_update_ne _ _ _ _ e2];exact e1
 dsimp only
 by_cases h2:vs.toArray.size<2
 ·rw[if_pos h2,if_pos h2]
  refine wpAny_bind (wpAny_pure ?_)
  rw[StateT.run_pure]
  refine wpAny_bind (wpAny_pure ?_)
  dsimp only
  have h2':vs.length<2:=by simpa using h2
  have gd:Good vs.length (List.range vs.length).toArray:=⟨.refl _⟩
  have up:jm lt f (List.range vs.length).toArray vs.length:=fun i hi=>by lia
  have eb:byP vs (List.range vs.length).toArray=vs:=by
   unfold byP
   refine List.ext_getElem? fun i=>?_
   simp only[List.getElem?_map]
   by_cases hi:i<vs.length
   ·simp[hi,List.getD_eq_getElem?_getD]
   ·simp[hi]
  have h':=h _ gd up
  rw[eb] at h'
  have eo:(arrOf (SortSt.mk' general' (vs.toArray.zip vs.toArray) #[] 7 none)).map (·.2)=vs.toArray:=by
   show(vs.toArray.zip vs.toArray).map (·.2)=_
   apply Array.toList_inj.mp
   simp[List.map_snd_zip]
  refine wpAny_bind (seqEpoch_at ho6 rfl ?_)
  rw[eo]
  refine wpAny_bind (listUpdate_at ho6 rfl ?_ (by simp) (by rw[List.size_toArray];lia))
  simp only[bne_self_eq_false,Bool.false_eq_true,if_false]
  exact wpAny_pure h'
 ·rw[if_neg h2,if_neg h2]
  have h2':2<=vs.length:=by simpa using h2
  obtain⟨κ,hkind,hless⟩:=hr.ex h2'
  refine wpAny_bind (hkind _ _ _ _ kp ?_)
  refine wpAny_bind (wpAny_mono (kat_run (ks:=vs) (vs:=vs) (κ:=κ) (E:=E) (Q:=fun st' s'=>∃ p,Good vs.length p/\jm lt f p vs.length/\(arrOf st').map (·.2)=(byP vs p).toArray/\failedOf st'=none/\s'={ s with heap:=((s.heap.update a (Obj.mapSeq fun _=>#[])).push (seqObj "tuple" vs.toArray 0)).push (seqObj "list" #[] 0) })
   (G:=fun p s'=>Good vs.length p/\jm lt f p vs.length/\s'={ s with heap:=((s.heap.update a (Obj.mapSeq fun _=>#[])).push (seqObj "tuple" vs.toArray 0)).push (seqObj "list" #[] 0) }) rfl h2' h64 (fun p st' s' hp har hf hG=>⟨p,hG.1,hG.2.1,?_,hf,hG.2.2⟩) (Rb o (fun i j C hi hj hC=>?_) (by lia) fun p g u=>⟨g,u,rfl⟩)) ?_ fun _ _ e=>e)
  ·rw[kat_snds rfl har];rfl
  ·exact hless A _ i j C hu kp hi hj hC
  ·rintro⟨⟨⟩,st'⟩ s' ⟨p,g,u,eo,hf,rfl⟩
   dsimp only
   dsimp only at eo hf
   refine wpAny_bind (seqEpoch_at ho6 rfl ?_)
   rw[eo]
   refine wpAny_bind (listUpdate_at ho6 rfl ?_ (by simp) ?_)
   ·rw[hf]
    simp only[bne_self_eq_false,Bool.false_eq_true,if_false]
    exact wpAny_pure (h p g u)
   ·unfold byP
    rw[List.size_toArray,List.length_map,Array.length_toList,g.size];lia
end
def fW(a b:Cell):Bool:=decide (bF a b)
theorem mX:fJ fW:=by
 refine⟨fun a b h=>?_,fun a b c h1 h2=>?_,fun a b h1 h2=>?_⟩
 ·have:=of_decide_eq_true h
  refine decide_eq_false ?_
  unfold bF at *;omega
 ·have h1':=of_decide_eq_false h1
  have h2':=of_decide_eq_false h2
  refine decide_eq_false ?_
  unfold bF at *;omega
 ·have h1':=of_decide_eq_false h1
  have h2':=of_decide_eq_false h2
  unfold bF at *
  exact Prod.ext (by omega) (by omega)
section
variable{X:Cx}
theorem zN{pins:List (Addr×Obj)}{σ:L2.St}{H:Hp}{s:Shared}{vs:List V}{us:List Value}{cs:List Cell}(I:Inv X pins σ H s)(D:aN X.K H vs (cs.map ao))(r:Vals vs us):wF X.prog X.w s.heap us fW fun i=>cs.getD i (0,0):=by
 have hl:us.length=cs.length:=by rw[<- r.length,D.length,List.length_map]
 have at_:∀ i,(hi:i<cs.length)->∃(a:Addr)(o:Obj)(t t':Tok)(n:Nat),us.getD i Value.none=.ref a/\s.heap.get? a=some o/\o.cls=.type "tuple" /\ o.data=.seq #[.int cs[i].1 t,.int cs[i].2 t'] n:=fun i hi=>by
  have hv:i<vs.length:=by rw[r.length,hl];exact hi
  have ev:vs[i]?=some vs[i]:=by simp[hv]
  obtain⟨u,eu,ru⟩:=r.get ev
  obtain⟨d,ed,dd⟩:=D.get ev
  rw[List.getElem?_map,List.getElem?_eq_getElem hi] at ed
  cases ed
  obtain⟨a,o,t,t',n,rfl,h1,h2,h3⟩:=oY I dd ru
  exact⟨a,o,t,t',n,by rw[List.getD_eq_getElem?_getD,eu];rfl,h1,h2,h3⟩
 refine⟨fun h2=>⟨tuples' true,fun A' E' s' Q' kp q=>?_,fun A' s' i j C hu kp hi hj hC=>?_⟩⟩
 ·have kt:∀(cs:List Cell)(us:List Value),us.length=cs.length->(∀ i,(hi:i<cs.length)->∃(a:Addr)(o:Obj)(t t':Tok)(n:Nat),us.getD i Value.none=.ref a/\s.heap.get? a=some o/\o.cls=.type "tuple" /\ o.data=.seq #[.int cs[i].1 t,.int cs[i].2 t'] n) ->
    ∃ fs:List Value,fs.length=us.length/\(∀ f∈fs,∃ i t,f=Value.int i t)/\KatTups s'.heap us fs:=by
   intro cs
   induction cs with
   |nil=>
    intro us e _
    cases us with
    |nil=>exact⟨[],rfl,(fun f hf=>by cases hf),.nil⟩
    |cons a b=>simp at e
   |cons c cs ih=>
    intro us e h
    cases us with
    |nil=>simp at e
    |cons u us=>
     obtain⟨a,o,t,t',n,e1,e2,e3,e4⟩:=h 0 (by simp)
     have eu:u=.ref a:=e1
     subst eu
     obtain⟨fs,f1,f2,f3⟩:=ih us (by simpa using e) fun i hi=>by
      have:=h (i+1) (by simpa using hi)
      simpa using this
     refine⟨.int c.1 t::fs,by simp[f1],fun f hf=>?_,KatTups.cons (kp _ _ e2) e3 e4 rfl f3⟩
     rcases List.mem_cons.mp hf with z|z
     ·exact⟨_,_,z⟩
     ·exact f2 f z
  obtain⟨fs,f1,f2,f3⟩:=kt cs us hl at_
  refine kat_kind (T:=.type "int") f3 (by omega) (fun v hv=>?_) (by decide) ?_
  ·obtain⟨i,t,rfl⟩:=f2 v hv
   exact Looks.of_pure rfl
  ·exact q
 ·rw[hl] at hi hj
  obtain⟨a,o,t,t',n,e1,e2,e3,e4⟩:=at_ i hi
  obtain⟨b,o2,t2,t2',n2,g1,g2,g3,g4⟩:=at_ j hj
  rw[e1,g1]
  have ci:cs.getD i (0,0)=cs[i]:=by rw[List.getD_eq_getElem?_getD,List.getElem?_eq_getElem hi];rfl
  have cj:cs.getD j (0,0)=cs[j]:=by rw[List.getD_eq_getElem?_getD,List.getElem?_eq_getElem hj];rfl
  rw[ci,cj] at hC
  refine kat_lt (kp _ _ e2) e4 (kp _ _ g2) g4 ?_
  have out:∀ x:Bool,(x=true↔bF cs[i] cs[j])->C x s':=fun x hx=>by
   have:x=fW cs[i] cs[j]:=by
    unfold fW
    cases x
    ·exact(decide_eq_false fun z=>by have:=hx.mpr z;cases this).symm
    ·exact(decide_eq_true (hx.mp rfl)).symm
   rw[this];exact hC
  refine kat_cons (wpAny_eqBool_int ?_)
  by_cases q1:cs[i].1=cs[j].1
  ·rw[show(cs[i].1==cs[j].1)=true from beq_iff_eq.mpr q1]
   refine kat_yes (kat_cons (wpAny_eqBool_int ?_))
   by_cases q2:cs[i].2=cs[j].2
   ·rw[show(cs[i].2==cs[j].2)=true from beq_iff_eq.mpr q2]
    refine kat_yes (kat_nil (out _ ⟨fun z=>?_,fun z=>?_⟩))
    ·have:=of_decide_eq_true z;simp at this
    ·unfold bF at z;omega
   ·rw[show(cs[i].2==cs[j].2)=false from beq_eq_false_iff_ne.mpr q2]
    refine kat_no (kat_one _ _ (lt_int (out _ ?_)))
    rw[decide_eq_true_iff];unfold bF;omega
  ·rw[show(cs[i].1==cs[j].1)=false from beq_eq_false_iff_ne.mpr q1]
   refine kat_no (oneLt_int (out _ ?_))
   rw[decide_eq_true_iff];unfold bF;omega
theorem uh{vs:List V}{us:List Value}(r:Vals vs us):∀(ps:List Nat),(∀ i∈ps,i<vs.length)->Vals (ps.map fun i=>vs.getD i .non) (ps.map fun i=>us.getD i Value.none)
 |[],_=>.nil
 |i::ps,h=>by
  have hi:=h i List.mem_cons_self
  obtain⟨u,eu,ru⟩:=r.get (show vs[i]?=some vs[i] from by simp[hi])
  have e1:vs.getD i .non=vs[i]:=by simp[List.getD_eq_getElem?_getD,hi]
  have e2:us.getD i Value.none=u:=by rw[List.getD_eq_getElem?_getD,eu];rfl
  rw[List.map_cons,List.map_cons,e1,e2]
  exact .cons ru (uh r ps fun j hj=>h j (List.mem_cons_of_mem _ hj))
theorem Fx{K:PySem.W.Frag}{H:Hp}{vs:List V}{ds:List Dt}{d0:Dt}(D:aN K H vs ds):∀(ps:List Nat),(∀ i∈ps,i<vs.length)->aN K H (ps.map fun i=>vs.getD i .non) (ps.map fun i=>ds.getD i d0)
 |[],_=>.nil
 |i::ps,h=>by
  have hi:=h i List.mem_cons_self
  obtain⟨d,ed,dd⟩:=D.get (show vs[i]?=some vs[i] from by simp[hi])
  have e1:vs.getD i .non=vs[i]:=by simp[List.getD_eq_getElem?_getD,hi]
  have e2:ds.getD i d0=d:=by rw[List.getD_eq_getElem?_getD,ed];rfl
  rw[List.map_cons,List.map_cons,e1,e2]
  exact .cons dd (Fx D ps fun j hj=>h j (List.mem_cons_of_mem _ hj))
theorem nH{β:Type}{xs:List β}{d:β}{ps:List Nat}(h:ps.Perm (List.range xs.length)):(ps.map fun i=>xs.getD i d).Perm xs:=by
 have e:(List.range xs.length).map (fun i=>xs.getD i d)=xs:=by
  refine List.ext_getElem? fun i=>?_
  simp only[List.getElem?_map]
  by_cases hi:i<xs.length
  ·simp[hi,List.getD_eq_getElem?_getD]
  ·simp[hi]
 exact(h.map _).trans (by rw[e])
def Asc(cs:List Cell):Prop:=cs.Pairwise fun a b=>¬bF b a
end
end L2
namespace L2
open PySem PySem.Spec PyProof.Rows PySem.SeqAt PySem.MeetsSeq PySem.MeetsSeq2 PySem.MeetsSeq3
open PySem.AutoSeq1 (wpAny_loadPart')
end L2
namespace L2
open PySem PySem.Spec PyProof.Rows
section
variable{X:Cx}
def Wz:List V->Hp->VK->Prop:=fun xs H Q=>∃ c:Nat,xs=[.str ⟨#[c]⟩]/\48<=c/\c<=57/\Q (.int ((c:Int)-48)) H
theorem CZ:∀ c∈List.range 58,48<=c->intText? ⟨#[c]⟩=some ((c:Int)-48):=by decide +kernel
theorem wL:cA X (.type "int") Wz:=by
 intro pins s σ H xs us Q I r h
 obtain⟨c,rfl,h1,h2,q⟩:=h
 obtain⟨u,rfl,t,rfl⟩:=vals1 r
 exact PySem.W.KIN.call_text (CZ c (List.mem_range.mpr (by lia)) h1) (by show(1:Nat)<=640;decide) ⟨.int _,H,I.tok _,⟨_,rfl⟩,q⟩
end
def cg(zs:List Str)(c:Cell):Int:=(codeAt zs (c.1.toNat,c.2.toNat):Int)-48
theorem xq:∀ h∈List.range 7,∀ w∈List.range 7,(bJ h w).Pairwise bF:=by decide +kernel
theorem uY(c:Nat):inS "012345678" c=decide (48<=c/\c<=56):=by
 rw[Dk (by decide +kernel)]
 have e:("012345678" : Str).cps.toList=[48,49,50,51,52,53,54,55,56]:=by decide +kernel
 rw[e]
 have:(c∈[48,49,50,51,52,53,54,55,56])↔(48<=c/\c<=56):=by simp;lia
 rw[decide_eq_decide];exact this
theorem vm{zs:List Str}{w:Nat}{sg:Str}{x:Cell}:x∈bx zs w sg↔inF zs.length w x/\inS sg (codeAt zs (x.1.toNat,x.2.toNat))=true:=by
 unfold bx
 rw[List.mem_flatMap]
 constructor
 ·rintro⟨r,hr,hx⟩
  obtain⟨c,hc,rfl⟩:=List.mem_map.mp hx
  rw[List.mem_filter,List.mem_range] at hc
  rw[List.mem_range] at hr
  exact⟨⟨⟨by show(0:Int)<=(r:Int);lia,by show(r:Int)<zs.length;lia⟩,⟨by show(0:Int)<=(c:Int);lia,by show(c:Int)<w;lia⟩⟩,hc.2⟩
 ·rintro⟨⟨⟨a,b⟩,⟨c,d⟩⟩,hs⟩
  refine⟨x.1.toNat,List.mem_range.mpr (by lia),List.mem_map.mpr ⟨x.2.toNat,List.mem_filter.mpr ⟨List.mem_range.mpr (by lia),hs⟩,?_⟩⟩
  exact Prod.ext (by show((x.1.toNat:Nat):Int)=x.1;lia) (by show((x.2.toNat:Nat):Int)=x.2;lia)
theorem Vw.code{zs:List Str}{w:Nat}{x:Cell}(v:Vw zs w)(h:inF zs.length w x):mL (codeAt zs (x.1.toNat,x.2.toNat))=true:=by
 obtain⟨⟨a,b⟩,⟨c,d⟩⟩:=h
 have hr:x.1.toNat<zs.length:=by lia
 have e:zs.getD x.1.toNat Str.empty=zs[x.1.toNat]:=by simp[List.getD_eq_getElem?_getD,hr]
 have hl:(zs[x.1.toNat]).cps.size=w:=v.len _ (List.getElem_mem hr)
 refine v.sg _ (List.getElem_mem hr) _ ?_
 unfold codeAt
 dsimp only
 rw[e,Array.getD_eq_getD_getElem?,Array.getElem?_eq_getElem (by lia)]
 exact Array.getElem_mem_toList _
theorem iV{zs:List Str}{w:Nat}{x:Cell}(v:Vw zs w):x∈bx zs w "012345678" ↔ inF zs.length w x/\aX zs w x=false:=by
 rw[vm,uY]
 constructor
 ·rintro⟨h,hc⟩
  have:=of_decide_eq_true hc
  refine⟨h,?_⟩
  unfold aX
  rw[decide_eq_false (show ¬codeAt zs (x.1.toNat,x.2.toNat)=35 by lia),Bool.and_false]
 ·rintro⟨h,hc⟩
  have sg:=of_decide_eq_true (v.code h)
  unfold aX at hc
  rw[decide_eq_true h,Bool.true_and] at hc
  have:=of_decide_eq_false hc
  exact⟨h,decide_eq_true (by lia)⟩
theorem Vw.digit{zs:List Str}{w:Nat}{x:Cell}(v:Vw zs w)(h:inF zs.length w x)(hc:aX zs w x=false):48<=codeAt zs (x.1.toNat,x.2.toNat)/\codeAt zs (x.1.toNat,x.2.toNat)<=56:=by
 have:=(vm.mp ((iV v).mpr ⟨h,hc⟩)).2
 rw[uY] at this
 exact of_decide_eq_true this
theorem Ht{zs:List Str}{w:Nat}{x:Cell}:x∈bx zs w "#" ↔ aX zs w x=true:=by
 rw[<- iD]
 unfold fL
 rw[List.mem_filter,eU]
 constructor
 ·exact fun h=>h.2
 ·intro h
  refine⟨?_,h⟩
  unfold aX at h
  rw[Bool.and_eq_true] at h
  exact of_decide_eq_true h.1
theorem Cm{cs:List Cell}(h:Asc cs)(nd:cs.Nodup):cs.Pairwise bF:=by
 unfold Asc at h
 have:cs.Pairwise fun a b=>¬bF b a/\a≠b:=h.and nd
 exact this.imp fun {a b} hab=>by
  obtain⟨h1,h2⟩:=hab
  have h3:¬(a.1=b.1/\a.2=b.2):=fun z=>h2 (Prod.ext z.1 z.2)
  unfold bF at *;lia
theorem iH{cs:List Cell}(h:cs.Pairwise bF):cs.Nodup:=h.imp fun {a b} hab e=>by
 subst e
 unfold bF at hab;lia
end L2
namespace L2
open PySem PySem.Spec PyProof.Rows
section
variable{κ:Type} [DecidableEq κ]
def nT(kvs:List (κ×V))(k:κ):Option V:=(kvs.find? fun kv=>decide (kv.1=k)).map (·.2)
def putK(kvs:List (κ×V))(k:κ)(v:V):List (κ×V):=
 if(kvs.any fun kv=>decide (kv.1=k))=true then kvs.map (fun kv=>if kv.1=k then(kv.1,v) else kv) else kvs++[(k,v)]
theorem mR{p:κ×V}{r:List (κ×V)}{k:κ}(e:p.1=k):nT (p::r) k=some p.2:=by simp[nT,List.find?_cons,e]
theorem mQ{p:κ×V}{r:List (κ×V)}{k:κ}(e:¬p.1=k):nT (p::r) k=nT r k:=by simp[nT,List.find?_cons,e]
theorem qe(k:κ):∀ kvs:List (κ×V),(kvs.any fun kv=>decide (kv.1=k))=(nT kvs k).isSome
 |[]=>rfl
 |p::r=>by
  rw[List.any_cons]
  by_cases e:p.1=k
  ·simp only[mR e,decide_eq_true e,Bool.true_or,Option.isSome_some]
  ·rw[mQ e,decide_eq_false e,Bool.false_or];exact qe k r
theorem rY(kvs:List (κ×V))(k:κ)(v:V):(putK kvs k v).length<=kvs.length+1:=by
 unfold putK
 split
 ·rw[List.length_map];lia
 ·rw[List.length_append,List.length_cons,List.length_nil];lia
theorem Bc{kvs:List (κ×V)}{k:κ}(v:V)(h:nT kvs k=none):putK kvs k v=kvs++[(k,v)]:=by
 unfold putK
 rw[qe,h]
 exact if_neg (by decide)
theorem qu.jx{o:Option V}{u:Option Value}(r:qu o u):o.isSome=u.isSome:=by
 cases o with
 |none=>cases u with
  |none=>rfl
  |some _=>exact(show False from r).elim
 |some _=>cases u with
  |none=>exact(show False from r).elim
  |some _=>rfl
theorem KV.val{kvs:List (κ×V)}{vs:List (κ×Value)}(r:KV kvs vs)(k:κ):qu (nT kvs k) (valueAt vs k):=by
 unfold KV at r
 induction r with
 |nil=>exact True.intro
 |@cons p q ps qs h t ih=>
  obtain⟨h1,h2⟩:=h
  by_cases e:p.1=k
  ·have e':q.1=k:=h1.symm.trans e
   have b:valueAt (q::qs) k=some q.2:=by simp[valueAt,List.find?_cons,e']
   rw[mR e,b];exact h2
  ·have e':¬q.1=k:=fun z=>e (h1.trans z)
   have b:valueAt (q::qs) k=valueAt qs k:=by simp[valueAt,List.find?_cons,e']
   rw[mQ e,b];exact ih
theorem KV.any{kvs:List (κ×V)}{vs:List (κ×Value)}(r:KV kvs vs)(k:κ):(kvs.any fun kv=>decide (kv.1=k))=vs.any fun kv=>decide (kv.1=k):=by
 unfold KV at r
 induction r with
 |nil=>rfl
 |cons h t ih=>rw[List.any_cons,List.any_cons,ih,h.1]
theorem KV.repl{kvs:List (κ×V)}{vs:List (κ×Value)}(r:KV kvs vs)(k:κ){y:V}{u:Value}(ry:RelV y u) :
  KV (kvs.map fun kv=>if kv.1=k then(kv.1,y) else kv) (vs.map fun kv=>if kv.1=k then(kv.1,u) else kv):=by
 unfold KV at r ⊢
 induction r with
 |nil=>exact .nil
 |@cons p q ps qs h t ih=>
  rw[List.map_cons,List.map_cons]
  refine .cons ?_ ih
  obtain⟨h1,h2⟩:=h
  by_cases e:p.1=k
  ·rw[if_pos e,if_pos (h1.symm.trans e)];exact⟨h1,ry⟩
  ·rw[if_neg e,if_neg (fun z=>e (h1.trans z))];exact⟨h1,h2⟩
theorem KV.put{kvs:List (κ×V)}{vs:List (κ×Value)}(r:KV kvs vs)(k:κ){y:V}{u:Value}(ry:RelV y u):KV (putK kvs k y) (stored vs k u):=by
 unfold putK stored
 rw[r.any k]
 by_cases e:(vs.any fun kv=>decide (kv.1=k))=true
 ·rw[if_pos e,if_pos e];exact r.repl k ry
 ·rw[if_neg e,if_neg e];exact Paired.snoc r ⟨rfl,ry⟩
theorem KV.length{kvs:List (κ×V)}{vs:List (κ×Value)}(r:KV kvs vs):kvs.length=vs.length:=Paired.length r
end
theorem Ag{P:Program}{w:World}{k:Key}{u:Value}(r:RelV (kV k) u):(dR P w).is k u=true:=by
 cases k with
 |inl i=>obtain⟨t,e⟩:=(show ∃ t,u=Value.int i t from r);subst e;exact Ao P w i t
 |inr x=>obtain⟨t,e⟩:=(show ∃ t,u=Value.str x t from r);subst e;exact Aq P w x t
theorem xK{P:Program}{w:World}:∀ {ks:List Key} {us:List Value},Vals (ks.map kV) us->ItemsAre (dR P w) ks us
 |[],_,r=>by rw[List.map_nil] at r;cases r;exact .nil
 |k::ks,_,r=>by
  rw[List.map_cons] at r
  cases r with
  |cons h t=>exact .cons (Ag h) (xK t)
abbrev KT(H:Hp):List (List Key×V)->List (List Key×Addr×Value)->Prop:=Paired fun p q=>p.1=q.1/\H q.2.1=some (.tup (p.1.map kV))/\RelV p.2 q.2.2
theorem KT.val{H:Hp}{kvs:List (List Key×V)}{xs:List (List Key×Addr×Value)}(r:KT H kvs xs)(k:List Key):qu (nT kvs k) ((atKey xs k).map (·.2)):=by
 induction r with
 |nil=>exact True.intro
 |@cons p q ps qs h t ih=>
  obtain⟨h1,_,h2⟩:=h
  by_cases e:p.1=k
  ·have e':q.1=k:=h1.symm.trans e
   have b:atKey (q::qs) k=some q.2:=by simp[atKey,List.find?_cons,e']
   rw[mR e,b];exact h2
  ·have e':¬q.1=k:=fun z=>e (h1.trans z)
   have b:atKey (q::qs) k=atKey qs k:=by simp[atKey,List.find?_cons,e']
   rw[mQ e,b];exact ih
theorem KT.repl{H:Hp}{kvs:List (List Key×V)}{xs:List (List Key×Addr×Value)}(r:KT H kvs xs)(k:List Key){y:V}{u:Value}(ry:RelV y u) :
  KT H (kvs.map fun kv=>if kv.1=k then(kv.1,y) else kv) (xs.map (putAt k u)):=by
 induction r with
 |nil=>exact .nil
 |@cons p q ps qs h t ih=>
  rw[List.map_cons,List.map_cons]
  refine .cons ?_ ih
  obtain⟨h1,h2,h3⟩:=h
  unfold putAt
  by_cases e:p.1=k
  ·rw[if_pos e,if_pos (h1.symm.trans e)];exact⟨h1,h2,ry⟩
  ·rw[if_neg e,if_neg (fun z=>e (h1.trans z))];exact⟨h1,h2,h3⟩
theorem KT.put{H:Hp}{kvs:List (List Key×V)}{xs:List (List Key×Addr×Value)}(r:KT H kvs xs)(k:List Key){b:Addr}{y:V}{u:Value}(hb:H b=some (.tup (k.map kV)))(ry:RelV y u) :
  KT H (putK kvs k y) (storedH xs k b u):=by
 have e:(kvs.any fun kv=>decide (kv.1=k))=(atKey xs k).isSome:=by
  rw[qe,(r.val k).jx,Option.isSome_map]
 unfold putK storedH
 rw[e]
 by_cases q:(atKey xs k).isSome=true
 ·rw[if_pos q,if_pos q];exact r.repl k ry
 ·rw[if_neg q,if_neg q];exact Paired.snoc r ⟨rfl,hb,ry⟩
theorem KT.keeps{H H':Hp}{kvs:List (List Key×V)}{xs:List (List Key×Addr×Value)}(r:KT H kvs xs)(ht:∀ b ys,H b=some (.tup ys)->H' b=some (.tup ys)):KT H' kvs xs:=
 Paired.Tr r fun _ _ z=>⟨z.1,ht _ _ z.2.1,z.2.2⟩
section
variable{P:Program}{w:World}{H:Hp}{h:Heap}{a:Addr}
theorem Ry{u:HO}(ok:HOk P w H h)(e:Rd H a u):cM P w H h a u:=e.ok ok
theorem zY{kvs:List (Key×V)}(ok:HOk P w H h)(e:Rd H a (.dK kvs)):kvs.length<=sizeLine/\(a==sysModules)=false/\∃ vs,KV kvs vs/\h.DictOf (dR P w) a vs:=
 show cM P w H h a (.dK kvs) from Ry ok e
theorem VJ{kvs:List (Key×V)}(ok:HOk P w H h)(e:H a=some (.dK kvs)):kvs.length<=sizeLine/\(a==sysModules)=false/\∃ vs,KV kvs vs/\h.DictOf (dR P w) a vs:=zY ok (.inl e)
theorem qQ{ks:List Key}(ok:HOk P w H h)(e:H a=some (.tup (ks.map kV))):(tupleKind (dR P w)).is h ks a:=by
 obtain⟨_,its,r,o,h1,h2,n,h3⟩:=(show cM P w H h a (.tup (ks.map kV)) from ok a _ e)
 exact⟨o,its.toArray,n,h1,h2,h3,by simpa using xK r⟩
theorem Aa{kvs:List (List Key×V)}(ok:HOk P w H h)(e:Rd H a (.dT kvs)):kvs.length<=sizeLine/\(a==sysModules)=false /\
  ∃ xs,KT H kvs xs/\h.DictOfH (tupleKind (dR P w)) a xs:=by
 obtain⟨z,y,xs,r,o,es,ep,h1,h2,h3,h4,h5⟩:=(show cM P w H h a (.dT kvs) from Ry ok e)
 refine⟨z,y,xs,r,o,es,ep,h1,h2,h3,h4,fun x hx=>?_,h5⟩
 have all:∀ {l:List (List Key×V)} {m:List (List Key×Addr×Value)},KT H l m->∀ x∈m,(tupleKind (dR P w)).is h x.1 x.2.1:=by
  intro l m q
  induction q with
  |nil=>intro x hx;exact nomatch hx
  |@cons p q ps qs hq t ih=>
   intro x hx
   rcases List.mem_cons.mp hx with e|hx
   ·subst e
    exact qQ ok (by rw[<- hq.1];exact hq.2.1)
   ·exact ih x hx
 exact all r x hx
theorem K6{kvs:List (List Key×V)}(ok:HOk P w H h)(e:H a=some (.dT kvs)):kvs.length<=sizeLine/\(a==sysModules)=false /\
  ∃ xs,KT H kvs xs/\h.DictOfH (tupleKind (dR P w)) a xs:=Aa ok (.inl e)
end
def sY(H:Hp)(a:Addr)(y:V)(r:Option V):Prop:=
 (∃ kvs k,Rd H a (.dK kvs)/\y=kV k/\r=nT kvs k)\/∃ kvs k b,Rd H a (.dT kvs)/\y=.ref b/\H b=some (.tup (k.map kV))/\r=nT kvs k
def BZ(H:Hp)(a:Addr)(y v:V)(H':Hp):Prop:=
 (∃ kvs k,H a=some (.dK kvs)/\y=kV k/\kvs.length<sizeLine/\H'=upd H a (.dK (putK kvs k v))) \/
 ∃ kvs k b,H a=some (.dT kvs)/\y=.ref b/\H b=some (.tup (k.map kV))/\kvs.length<sizeLine/\H'=upd H a (.dT (putK kvs k v))
theorem sY.t{H:Hp}{a b:Addr}{kvs:List (List Key×V)}{k:List Key}(e:H a=some (.dT kvs))(eb:H b=some (.tup (k.map kV))):sY H a (.ref b) (nT kvs k):=.inr ⟨kvs,k,b,.inl e,rfl,eb,rfl⟩
theorem BZ.t{H:Hp}{a b:Addr}{kvs:List (List Key×V)}{k:List Key}{v:V}(e:H a=some (.dT kvs))(eb:H b=some (.tup (k.map kV)))(hl:kvs.length<sizeLine) :
  BZ H a (.ref b) v (upd H a (.dT (putK kvs k v))):=.inr ⟨kvs,k,b,e,rfl,eb,hl,rfl⟩
section
variable{X:Cx}{pins:List (Addr×Obj)}{σ:St}{H:Hp}{s:Shared}{a:Addr}{y v:V}{u r:Value}{o:Option V}{A:Around}{E:Value->Shared->Prop}
theorem Inv.big(I:Inv X pins σ H s):sysModules<s.heap.objs.size:=by
 have h:mainGlobals<s.heap.objs.size:=(I.mod.glob.keeps I.bk).lt
 exact Nat.lt_trans (by decide) h
theorem Hy{Q:Value->Shared->Prop}(hu:A.units+1<cLine)(I:Inv X pins σ H s)(g:sY H a y (some v))(ry:RelV y u)(h:∀ w' s',Inv X pins σ H s'->RelV v w'->Q w' s') :
  wpAny (model X.prog X.w) A (getItem (.ref a) u) Q E s:=by
 rcases g with⟨kvs,k,e,ey,l⟩|⟨kvs,k,b,e,ey,eb,l⟩
 ·subst ey
  obtain⟨z,hd,vs,rel,dd⟩:=zY I.hok e
  obtain⟨w',hw,rw'⟩:=qu.some_of (v:=v) (o:=valueAt vs k) (by rw[l];exact rel.val k)
  exact wpAny_getItem_of (Ag ry) dd.mapOf hw (h w' _ (I.tok _) rw')
 ·subst ey
  cases (show u=Value.ref b from ry)
  obtain⟨z,hd,xs,rel,dd⟩:=Aa I.hok e
  obtain⟨w',hw,rw'⟩:=qu.some_of (v:=v) (o:=(atKey xs k).map (·.2)) (by rw[l];exact rel.val k)
  obtain⟨p,hp,hp2⟩:=Option.map_eq_some_iff.mp hw
  refine wpAny_getItem_heap (tupleKind_room_in1 hu) (qQ I.hok eb) dd hp ?_
  rw[hp2]
  exact h w' _ (I.tok _) rw'
theorem Xz{Q:Value->Shared->Prop}(hu:A.units+1<cLine)(I:Inv X pins σ H s)(g:sY H a y o)(ry:RelV y u)(h:∀ s',Inv X pins σ H s'->Q (.bool o.isSome) s') :
  wpAny (model X.prog X.w) A (compareOp .In u (.ref a)) Q E s:=by
 rcases g with⟨kvs,k,e,ey,l⟩|⟨kvs,k,b,e,ey,eb,l⟩
 ·subst ey
  obtain⟨z,hd,vs,rel,dd⟩:=zY I.hok e
  refine wpAny_in_of (Ag ry) hd dd.mapOf ?_
  rw[<- (rel.val k).jx,<- l]
  exact h _ (I.tok _)
 ·subst ey
  cases (show u=Value.ref b from ry)
  obtain⟨z,hd,xs,rel,dd⟩:=Aa I.hok e
  refine wpAny_in_heap (tupleKind_room_in1 hu) (qQ I.hok eb) hd dd ?_
  have q:=(rel.val k).jx
  rw[Option.isSome_map] at q
  rw[<- q,<- l]
  exact h _ (I.tok _)
theorem Oj{Q:Value->Shared->Prop}(hu:A.units+1<cLine)(I:Inv X pins σ H s)(g:sY H a y o)(ry:RelV y u)(h:∀ s',Inv X pins σ H s'->Q (.bool (!o.isSome)) s') :
  wpAny (model X.prog X.w) A (compareOp .NotIn u (.ref a)) Q E s:=by
 rcases g with⟨kvs,k,e,ey,l⟩|⟨kvs,k,b,e,ey,eb,l⟩
 ·subst ey
  obtain⟨z,hd,vs,rel,dd⟩:=zY I.hok e
  refine wpAny_notIn_of (Ag ry) hd dd.mapOf ?_
  rw[<- (rel.val k).jx,<- l]
  exact h _ (I.tok _)
 ·subst ey
  cases (show u=Value.ref b from ry)
  obtain⟨z,hd,xs,rel,dd⟩:=Aa I.hok e
  refine wpAny_notIn_heap (tupleKind_room_in1 hu) (qQ I.hok eb) hd dd ?_
  have q:=(rel.val k).jx
  rw[Option.isSome_map] at q
  rw[<- q,<- l]
  exact h _ (I.tok _)
theorem yK{h':Heap}{t':Nat}{ob:HO}(I:Inv X pins σ H s)(mu:Mut (H a))(hs:Heap.SameBut a s.heap h')(he:∃ q,h'.get? a=some q)(new:cM X.prog X.w (upd H a ob) h' a ob) :
  Inv X pins σ (upd H a ob) { s with heap:=h',toks:=t' }:=
 I.write (x:=a) (e:=a) mu (.inl rfl) (fun b q hb z=>(hs.2 b hb).trans z) he new
theorem Sx{P:Program}{w:World}{H':Hp}{h':Heap}{kvs:List (Key×V)}{vs:List (Key×Value)}(z:kvs.length<=sizeLine)(hd:(a==sysModules)=false)(rel:KV kvs vs)(dd:h'.DictOf (dR P w) a vs) :
  cM P w H' h' a (.dK kvs):=⟨z,hd,vs,rel,dd⟩
theorem HF{H':Hp}{Q:Unit->Shared->Prop}(hu:A.units+1<cLine)(I:Inv X pins σ H s)(g:BZ H a y v H')(ry:RelV y u)(rv:RelV v r)(h:∀ s',Inv X pins σ H' s'->Q () s') :
  wpAny (model X.prog X.w) A (setItem (.ref a) u r) Q E s:=by
 rcases g with⟨kvs,k,e,ey,l,eH⟩|⟨kvs,k,b,e,ey,eb,l,eH⟩
 ·subst ey eH
  obtain⟨z,hd,vs,rel,dd⟩:=VJ I.hok e
  have hz:vs.length<=sizeLine:=by rw[<- rel.length];exact z
  have hl:(putK kvs k v).length<=sizeLine:=by have:=rY kvs k v;lia
  refine wpAny_setItem_pairs (hsz:=hz) (Ag ry) dd fun h' dd' hs=>h _ ?_
  have he:∃ q,h'.get? a=some q:=let ⟨q,_,_,hq,_⟩:=dd';⟨q,hq⟩
  exact yK I (by rw[e];exact True.intro) hs he (Sx hl hd (rel.put k rv) dd')
 ·subst ey eH
  cases (show u=Value.ref b from ry)
  obtain⟨z,hd,xs,rel,dd⟩:=K6 I.hok e
  have hz:xs.length<=sizeLine:=by rw[<- Paired.length rel];exact z
  have hl:(putK kvs k v).length<=sizeLine:=by have:=rY kvs k v;lia
  refine wpAny_setItem_heap (hsz:=hz) (tupleKind_room_in1 hu) (qQ I.hok eb) dd fun h' dd' hs=>h _ ?_
  obtain⟨q,es,ep,hq,h2,h3,h4,_,h5⟩:=dd'
  refine yK I (by rw[e];exact True.intro) hs ⟨q,hq⟩ ⟨hl,hd,_,(rel.put k eb rv).keeps fun c ys ec=>?_,q,es,ep,hq,h2,h3,h4,h5⟩
  rw[aO (pH ec e (fun z=>nomatch z))]
  exact ec
end
theorem zX{X:Cx}{pins:List (Addr×Obj)}{σ:St}{H:Hp}{s:Shared}{a:Addr}{y:V}{o:Option V}(I:Inv X pins σ H s)(g:sY H a y o):s.TypeIs (.ref a) "dict":=by
 rcases g with⟨kvs,k,e,_,_⟩|⟨kvs,k,b,e,_,_,_⟩
 ·obtain⟨_,_,vs,_,dd⟩:=zY I.hok e
  exact dd.typeIs
 ·obtain⟨_,_,xs,_,dd⟩:=Aa I.hok e
  exact dd.typeIs
theorem zZ{P:Program}{w:World}{H:Hp}(h:Heap)(hb:sysModules<h.objs.size):cM P w H (h.push { cls:=.type "dict",data:=.dict #[] }) h.objs.size (.dT []):=
 ⟨Nat.zero_le _,beq_eq_false_iff_ne.mpr (Ne.symm (Nat.ne_of_lt hb)),[],.nil,_,#[],0,Heap.get?_push_size _ rfl,⟨rfl,rfl,rfl⟩,rfl,rfl,List.nodup_nil⟩
def Nv:TE:=fun _ H Q=>∀ p,H p=none->Q (.ref p) (upd H p (.dT []))
section
variable{X:Cx}{pos:Pos}
theorem Lw:PE X (.Dict [] [] pos) Nv:=fun pins s σ H Q I h=>
 wpAny_Dict_empty ⟨.ref s.heap.objs.size,_,I.laid (a:=s.heap.objs.size) (o:=.dT []) (t':=s.toks) (fun _ _ q=>Heap.get?_push_of_some _ q) (Nat.le_refl _) (zZ s.heap I.big),rfl,h _ (I.hok.fresh (Nat.le_refl _))⟩
end
def Nz:List (TE×TE)->St->Hp->(List (V×V)->Hp->Prop)->Prop
 |[],_,H,Q=>Q [] H
 |(tk,tv)::r,σ,H,Q=>tk σ H fun x H1=>tv σ H1 fun y H2=>Nz r σ H2 fun ps H3=>Q ((x,y)::ps) H3
abbrev VV:List (V×V)->List (Value×Value)->Prop:=Paired fun p q=>RelV p.1 q.1/\RelV p.2 q.2
def PPs(X:Cx)(pos:Pos)(keys:List (Option Expr))(values:List Expr)(trs:List (TE×TE)):Prop:=
 ∀(pins:List (Addr×Obj))(s:Shared)(σ:St)(H:Hp)(Q:List (V×V)->Hp->Prop),Inv X pins σ H s->Nz trs σ H Q ->
  wpAny (model X.prog X.w) X.A (evalPairs (pairTrees keys values X.env pos)) (fun vs s'=>∃ ps H',Inv X pins σ H' s'/\VV ps vs/\Q ps H') X.xe s
theorem Qs{X:Cx}{pos:Pos}:PPs X pos [] [] []:=fun pins s σ H Q I h=>pairTrees_nil_walk ⟨[],H,I,.nil,h⟩
theorem LK{X:Cx}{pos:Pos}{k v:Expr}{ks:List (Option Expr)}{vs:List Expr}{tk tv:TE}{trs:List (TE×TE)}(hk:PE X k tk)(hv:PE X v tv)(hr:PPs X pos ks vs trs) :
  PPs X pos (some k::ks) (v::vs) ((tk,tv)::trs):=fun pins s σ H Q I h=>
 pairTrees_cons_walk (thn (hk pins s σ H _ I h) fun u s1 ⟨x,H1,I1,rx,q1⟩=>thn (hv pins s1 σ H1 _ I1 q1) fun w2 s2 ⟨y,H2,I2,ry,q2⟩=>
  thn (hr pins s2 σ H2 _ I2 q2) fun ws s3 ⟨ps,H3,I3,rel,q3⟩=>⟨(x,y)::ps,H3,I3,.cons ⟨rx,ry⟩ rel,q3⟩)
end L2
namespace L2
open PySem PySem.Spec PyProof.Rows
end L2
namespace L2
open PySem PySem.Spec PyProof.Rows
section
variable{X:Cx}
def Yr:R2:=fun x y H Q=>∃ a v,x=.ref a/\sY H a y (some v)/\Q v H
theorem tU(hu:X.A.units+60<cLine):IxR X Yr:=by
 intro value slice pins s σ H x y v u Q I rx ry h hs
 obtain⟨a,z,rfl,g,q⟩:=h
 cases rx
 exact tail_any (ops:=[.ref a,u]) (zX I g) PySem.F.slot_dict_getitem.lookup (Hy (by lia) I g ry fun w' s3 I3 rw'=>⟨z,H,I3,rw',q⟩) hs
def Gv(neg:Bool):R2:=fun y x H Q=>∃ a o,x=.ref a/\sY H a y o/\Q (.bl (if neg then !o.isSome else o.isSome)) H
theorem IK(hu:X.A.units+60<cLine):OpR X (compareOp .In) (Gv false):=by
 intro pins s σ H y x u v Q I ry rx h
 obtain⟨a,o,rfl,g,q⟩:=h
 cases rx
 exact Xz (by lia) I g ry fun s3 I3=>⟨.bl o.isSome,H,I3,rfl,q⟩
theorem yV(hu:X.A.units+60<cLine):OpR X (compareOp .NotIn) (Gv true):=by
 intro pins s σ H y x u v Q I ry rx h
 obtain⟨a,o,rfl,g,q⟩:=h
 cases rx
 exact Oj (by lia) I g ry fun s3 I3=>⟨.bl (!o.isSome),H,I3,rfl,q⟩
def WT:V->V->V->Hp->(Hp->Prop)->Prop:=fun o i v H Q=>∃ a H',o=.ref a/\BZ H a i v H'/\Q H'
theorem set_dict(hu:X.A.units+60<cLine):O7 X WT:=by
 intro pins s σ H o i v ov iv u Q I ro ri rv h
 obtain⟨a,H',rfl,g,q⟩:=h
 cases ro
 exact HF (by lia) I g ri rv fun s4 I4=>⟨H',I4,q⟩
end
end L2
namespace L2
open PySem PySem.Spec PyProof.Rows
section
variable{X:Cx}{pos:Pos}{k v:Expr}{tk tv:TE}
def Nx(tk tv:TE):TE:=fun σ H Q=>∀ p,H p=none->tk σ (upd H p (.dT [])) fun x H1=>tv σ H1 fun y H2=>∃ ks b,H2 p=some (.dT [])/\x=.ref b/\H2 b=some (.tup (ks.map kV))/\Q (.ref p) (upd H2 p (.dT [(ks,y)]))
theorem Lr(hu:X.A.units+60<cLine)(hk:PE X k tk)(hv:PE X v tv):PE X (.Dict [some k] [v] pos) (Nx tk tv):=by
 intro pins s σ H Q I q
 have hn:=I.hok.fresh (Nat.le_refl s.heap.objs.size)
 have I1:=I.laid (a:=s.heap.objs.size) (o:=.dT []) (h':=s.heap.push { cls:=.type "dict",data:=.dict #[] }) (t':=s.toks) (fun _ _ z=>Heap.get?_push_of_some _ z) (Nat.le_refl _) (zZ s.heap I.big)
 refine wpAny_Dict_any rfl rfl (by intro z;cases z) (by show 1<=15;decide) ?_
 have pp:PPs X pos [some k] [v] [(tk,tv)]:=LK hk hv Qs
 refine thn (pp pins _ σ _ (fun ps H2=>match ps with
  |[(x,y)]=>∃ ks b,H2 s.heap.objs.size=some (.dT [])/\x=.ref b/\H2 b=some (.tup (ks.map kV))/\Q (.ref s.heap.objs.size) (upd H2 s.heap.objs.size (.dT [(ks,y)]))
  |_=>False) I1 (q _ hn)) fun ws s2 h=>?_
 obtain⟨ps,H2,I2,rel,h⟩:=h
 cases rel with
 |nil=>exact h.elim
 |@cons p1 w1 ps' ws' r1 Yy=>
  cases Yy with
  |cons _ _=>exact h.elim
  |nil=>
   obtain⟨x,y⟩:=p1
   obtain⟨u,r⟩:=w1
   obtain⟨ks,b,e,ex,eb,q2⟩:=h
   subst ex
   obtain⟨ru,ry⟩:=r1
   cases (show u=Value.ref b from ru)
   obtain⟨z,hd,xs,rel,dd⟩:=K6 I2.hok e
   cases rel
   show wpAny (model X.prog X.w) X.A (storeAll s.heap.objs.size [(.ref b,r)]) _ _ s2
   unfold storeAll
   rw[List.forIn_cons]
   refine wpAny_bind (wpAny_bind (wpAny_dictSet_heap (knd:=tupleKind (dR X.prog X.w)) (show X.A.units<cLine by lia) (qQ I2.hok eb) dd fun h' dd' hs=>wpAny_pure ?_))
   dsimp only
   rw[List.forIn_nil]
   refine wpAny_pure ?_
   obtain⟨o,es,ep,ho,h2,h3,h4,_,h5⟩:=dd'
   refine⟨.ref s.heap.objs.size,_,yK (ob:=.dT [(ks,y)]) I2 (by rw[e];exact True.intro) hs ⟨o,ho⟩ ⟨by show 1<=sizeLine;rw[sizeLine_eq];decide,hd,_,(KT.put (kvs:=[]) (xs:=[]) .nil ks eb ry).keeps fun c ys ec=>?_,o,es,ep,ho,h2,h3,h4,h5⟩,rfl,q2⟩
   rw[aO (pH ec e (fun z=>nomatch z))]
   exact ec
theorem QJ(hu:X.A.units+60<cLine)(hk:RE X k tk)(hv:RE X v tv):RE X (.Dict [some k] [v] pos) (Nx tk tv):=⟨Lr hu hk.ok hv.ok⟩
theorem QK:RE X (.Dict [] [] pos) Nv:=⟨Lw⟩
end
end L2
namespace L2
open PySem PySem.Spec PyProof.Rows PySem.SeqAt PySem.MeetsSeq PySem.MeetsSeq2 PySem.MeetsSeq3
open PySem.AutoSeq1 (wpAny_loadPart')
theorem KR(I d:Addr)(i n ep:Nat)(es:Array DictEntry)(dd d1:Option Addr)(z1 z2:Array (Option Value))(c:Value)(hi:i<es.size)(hn:n=es.size):Meets (Builtin.«dict_keyiterator.__next__» ⟨[.ref I],[]⟩)
  (fun _ R s=>s.heap.get? I=some { cls:=.type "dict_keyiterator",dict:=dd,data:=.fields #[.ref d,.int i 0,.int n 0,.int ep 0],slots:=z1 }/\s.heap.get? d=some { cls:=.type "dict",dict:=none,data:=.dict es ep,slots:=#[] } /\
   ∀ h' tk',h'.get? I=some { cls:=.type "dict_keyiterator",dict:=dd,data:=.fields #[.ref d,.int ((i+1:Nat):Int) 0,.int n 0,.int ep 0],slots:=z1 }->(∀ b o,b≠I->s.heap.get? b=some o->h'.get? b=some o)->R (.ok (.ret es[i].key)) { s with heap:=h',toks:=tk' }):=
 .of_wp fun prog w A R s h=>by
  obtain⟨hp,g,dr,tk,os⟩:=s;obtain⟨e1,e2,h⟩:=h
  wp_walk using wpAny_loadPart' e1,wpAny_loadPart' e2
  have e:(if(i:Int)<0 then none else es[((i:Nat):Int).toNat]?)=some es[i]:=by
   rw[if_neg (by lia),Int.toNat_natCast,Array.getElem?_eq_getElem hi]
  rw[e]
  dsimp only
  wp_walk using wpAny_loadPart' e1,wpAny_loadPart' e2
  refine⟨_,rfl,h _ tk ?_ fun b o hb eb=>?_⟩
  ·have:=Heap.get?_update_self (Obj.mapFields fun x=>x.setIfInBounds 1 (rawInt ((i:Int)+1))) e1 rfl
   exact this
  ·rw[Heap.get?_update_ne _ _ _ _ hb];exact eb
end L2
namespace L2
open PySem PySem.Spec PyProof.Rows
theorem Px{K:PySem.W.Frag}{C C':Addr}(c:gM K C)(e:PySem.W.kitOne K (.ref C) (.ref C')=some false):C≠C'/\gM K C/\tQ K C C'=true:=by
 unfold PySem.W.kitOne at e
 by_cases q:(Value.ref C==Value.ref C')=true
 ·rw[if_pos q] at e;cases e
 rw[if_neg q] at e
 refine⟨fun z=>q (by rw[z];exact beq_self_eq_true _),c,?_⟩
 have hx:=c.ex
 unfold PySem.W.excIn at hx
 split at hx
 ·rename_i dd cd sl ho
  have e2:PySem.W.mroIn K C (.ref C')=some false:=by
   have e':(if((PySem.W.clsIn K C').isSome&&PySem.W.typeIn K (.ref C')==some (.type "type"))=true then PySem.W.mroIn K C (.ref C') else none)=some false:=e
   split at e'
   ·exact e'
   ·cases e'
  unfold PySem.W.mroIn PySem.W.clsIn at e2
  rw[ho] at e2
  unfold tQ
  rw[ho]
  have e3:(if cd.mro.isEmpty then none else some (cd.mro.contains (.ref C')))=some false:=e2
  split at e3
  ·cases e3
  ·injection e3 with e3
   show(!cd.mro.contains (.ref C'))=true
   rw[e3];rfl
 ·cases hx
def yp(H H':Hp):Prop:=∀ b xs,H b=some (.tup xs)->H' b=some (.tup xs)
theorem yp.put{H:Hp}{x:Addr}{o u:HO}(hx:H x=some o)(no:∀ xs,o≠.tup xs):yp H (upd H x u):=fun b xs e=>by
 rw[aO (fun z=>by rw[z,hx] at e;exact no xs (Option.some.inj e))];exact e
section
variable{K:PySem.W.Frag}{H H':Hp}
theorem yp.cell{v:V}{x:Cell}(s:yp H H')(h:Den K H v (ao x)):Den K H' v (ao x):=by
 obtain⟨a,rfl,_,ht⟩:=dD h
 exact .tup (s _ _ ht) (.cons (.int _) (.cons (.int _) .nil))
theorem yp.cells(s:yp H H'):∀ {vs:List V} {cs:List Cell},aN K H vs (cs.map ao)->aN K H' vs (cs.map ao)
 |[],[],_=>.nil
 |v::vs,c::cs,.cons h t=>.cons (s.cell h) (s.cells t)
end
def gG(c:Cell):List Key:=[.inl c.1,.inl c.2]
theorem vf{a b:Cell}(e:gG a=gG b):a=b:=by
 unfold gG at e
 injection e with e1 e2
 injection e2 with e2 _
 injection e1 with e1
 injection e2 with e2
 exact Prod.ext e1 e2
end L2
namespace L2
open PySem PySem.Spec PyProof.Rows
end L2
namespace L2
open PySem PySem.Spec PyProof.Rows PySem.SeqAt PySem.MeetsSeq PySem.MeetsSeq2 PySem.MeetsSeq3
open PySem.AutoSeq1 (wpAny_loadPart')
theorem Ou(I d:Addr)(n ep:Nat)(es:Array DictEntry)(z1:Array (Option Value))(hn:n=es.size):Meets (Builtin.«dict_keyiterator.__next__» ⟨[.ref I],[]⟩)
  (fun A R s=>A.handled=none/\s.heap.get? I=some { cls:=.type "dict_keyiterator",dict:=none,data:=.fields #[.ref d,.int n 0,.int n 0,.int ep 0],slots:=z1 }/\s.heap.get? d=some { cls:=.type "dict",dict:=none,data:=.dict es ep,slots:=#[] } /\
   ∀(h':Heap)(e:Addr),(∃ o,h'.get? e=some o/\o.cls=.type "StopIteration")->(∀ b o,b≠I->s.heap.get? b=some o->h'.get? b=some o)->R (.error (.ref e)) { s with heap:=h' }):=
 .of_wp fun prog w A R s h=>by
  obtain⟨hp,g,dr,tk,os⟩:=s;obtain⟨hh,e1,e2,h⟩:=h
  wp_walk using wpAny_loadPart' e1,wpAny_loadPart' e2
  have e:(if(n:Int)<0 then none else es[((n:Nat):Int).toNat]?)=none:=by
   rw[if_neg (by lia),Int.toNat_natCast];exact Array.getElem?_eq_none (by lia)
  rw[e]
  dsimp only
  wp_walk using wpAny_loadPart' e1,wpAny_loadPart' e2
  unfold raiseNew
  refine wpAny_bind (wpAny_handled ?_)
  have hh':A.in1.handled=none:=hh
  rw[hh']
  refine wpAny_bind (wpAny_pure (wpAny_throw (h _ _ ⟨_,Heap.get?_push_size _ rfl,rfl⟩ fun b o hb eb=>Heap.get?_push_of_some _ (Heap.get?_push_of_some _ ?_))))
  rw[Heap.get?_update_ne _ _ _ _ hb];exact eb
section
variable{P:Program}{w:World}{A:Around}{E:Value->Shared->Prop}{s:Shared}
def KIt(I d:Addr)(es:Array DictEntry)(ep i:Nat)(h:Heap):Prop:=
 (∃ z1,h.get? I=some { cls:=.type "dict_keyiterator",dict:=none,data:=.fields #[.ref d,.int i 0,.int es.size 0,.int ep 0],slots:=z1 })/\h.get? d=some { cls:=.type "dict",dict:=none,data:=.dict es ep,slots:=#[] }
theorem KIt.ty{I d:Addr}{es:Array DictEntry}{ep i:Nat}(k:KIt I d es ep i s.heap):s.TypeIs (.ref I) "dict_keyiterator":=let ⟨_,e⟩:=k.1;⟨_,e,rfl⟩
theorem Kv{I d:Addr}{es:Array DictEntry}{ep i:Nat}{Q:Option Value->Shared->Prop}(k:KIt I d es ep i s.heap)(ne:d≠I)(hi:i<es.size)
  (hQ:∀ h' tk',KIt I d es ep (i+1) h'->(∀ b o,b≠I->s.heap.get? b=some o->h'.get? b=some o)->Q (some es[i].key) { s with heap:=h',toks:=tk' }):wpAny (model P w) A (pyNext (.ref I)) Q E s:=by
 obtain⟨⟨z1,e1⟩,e2⟩:=id k
 unfold pyNext
 refine wpAny_bind (wpAny_attempt (wpAny_callSpecial?_slot (name:=Str.ofString "__next__") k.ty PySem.F.slot_dict_keyiterator_next
  (call_meets PySem.F.slot_dict_keyiterator_next k.ty PySem.F.entry_dict_keyiterator_next (PySem.F.args_dict_keyiterator_next_1 _) (KR I d i es.size ep es none none z1 #[] .none hi rfl) ⟨e1,e2,fun h' tk' g1 g2=>?_⟩)))
 exact wpAny_pure (hQ h' tk' ⟨⟨z1,g1⟩,g2 d _ ne e2⟩ g2)
theorem Ph{I d:Addr}{es:Array DictEntry}{ep:Nat}{Q:Option Value->Shared->Prop}(hh:A.handled=none)(k:KIt I d es ep es.size s.heap)
  (hQ:∀ h',(∀ b o,b≠I->s.heap.get? b=some o->h'.get? b=some o)->Q none { s with heap:=h' }):wpAny (model P w) A (pyNext (.ref I)) Q E s:=by
 obtain⟨⟨z1,e1⟩,e2⟩:=id k
 unfold pyNext
 refine wpAny_bind (wpAny_attempt (wpAny_callSpecial?_slot (name:=Str.ofString "__next__") k.ty PySem.F.slot_dict_keyiterator_next
  (call_meets PySem.F.slot_dict_keyiterator_next k.ty PySem.F.entry_dict_keyiterator_next (PySem.F.args_dict_keyiterator_next_1 _) (Ou I d es.size ep es z1 rfl) ⟨hh,e1,e2,fun h' e ho g2=>?_⟩)))
 obtain⟨o,h1,h2⟩:=ho
 refine wpAny_bind (wpAny_isInstance (T:="StopIteration") (b:=true) ⟨o,h1,h2⟩ isSubtype_stop ?_)
 exact wpAny_pure (hQ h' g2)
theorem Ku{d:Addr}{es:Array DictEntry}{ep:Nat}{Q:Value->Shared->Prop}(lo:(d==sysModules)=false) (e:s.heap.get? d=some { cls:=.type "dict",dict:=none,data:=.dict es ep,slots:=#[] })
  (hQ:Q (.ref s.heap.objs.size) { s with heap:=s.heap.push { cls:=.type "dict_keyiterator",dict:=none,data:=.fields #[.ref d,.int 0 0,.int es.size 0,.int ep 0],slots:=#[] } }):wpAny (model P w) A (pyIter (.ref d)) Q E s:=by
 have ty:s.TypeIs (.ref d) "dict":=⟨_,e,rfl⟩
 refine wpAny_pyIter_slot ty PySem.F.slot_dict_iter (wpAny_call_entry PySem.F.slot_dict_iter ty PySem.F.entry_dict_iter ?_ (PySem.F.args_dict_iter_1 _))
 unfold Builtin.«dict.__iter__»
 refine wpAny_bind ?_
 unfold Builtin.Dict.dictSlotNone
 refine wpAny_bind (wpAny_notOrdered_dict ty ?_)
 refine wpAny_pure ?_
 show wpAny _ _ (Builtin.Dict.showsAll d >>= _) _ _ s
 unfold Builtin.Dict.showsAll
 rw[lo,if_neg (by decide)]
 refine wpAny_bind (wpAny_pure (wpAny_bind (wpAny_dictEntries e rfl (wpAny_bind (wpAny_dictEpoch e rfl ?_)))))
 exact wpAny_bind (wpAny_newObj_type (wpAny_pure ⟨_,rfl,"dict_keyiterator",_,⟨_,Heap.get?_push_size _ rfl,rfl⟩,PySem.F.slot_dict_keyiterator_next.lookup,hQ⟩))
theorem Ie(hh:A.handled=none)(I d:Addr)(ne:d≠I)(es:Array DictEntry)(ep:Nat):Walks P w A I [I,d] [I] es.size (fun i v=>∃ h:i<es.size,v=es[i].key) (KIt I d es ep) where
 sub:=fun b hb=>by rw[List.mem_singleton.mp hb];exact List.mem_cons_self
 frame:=fun i h h' st hk=>⟨let ⟨z,e⟩:=st.1;⟨z,hk I List.mem_cons_self _ e⟩,hk d (List.mem_cons_of_mem _ List.mem_cons_self) _ st.2⟩
 item:=fun i s Q E hi st hQ=>Kv st ne hi fun h' tk' k' keep=>hQ _ h' tk' ⟨hi,rfl⟩ k' fun b o hb eb=>keep b o (fun z=>hb (by rw[z];exact List.mem_singleton.mpr rfl)) eb
 done:=fun s Q E st hQ=>Ph hh st fun h' keep=>hQ h' s.toks fun b o hb eb=>keep b o (fun z=>hb (by rw[z];exact List.mem_singleton.mpr rfl)) eb
 self:=fun i s Q E st hQ=>let ⟨_,e⟩:=st.1;wpAny_pyIter_keyiter ⟨_,e,rfl,rfl⟩ hQ
theorem Pj(d:Addr)(lo:(d==sysModules)=false)(es:Array DictEntry)(ep:Nat):PySem.W.KdlSrc P w "dict" d d es.size (fun i v=>∃ h:i<es.size,v=es[i].key) (fun h=>h.get? d=some { cls:=.type "dict",dict:=none,data:=.dict es ep,slots:=#[] }) where
 type:=fun s e=>⟨_,e,rfl⟩
 there:=fun h e=>⟨Heap.lt_size e,Heap.lt_size e⟩
 keep:=fun h h' e hk=>hk d (.inl rfl) _ e
 notList:=by decide
 notTuple:=by decide
 hint:=fun A E s Q e hq=>PySem.W.kdl_hint_dict ⟨_,e,rfl⟩ hq
 iter:=fun A s hh e=>⟨_,_,fun E Q hq=>Ku lo e hq,Ie hh _ d (Nat.ne_of_lt (Heap.lt_size e)) es ep,⟨⟨_,Heap.get?_push_size _ rfl⟩,Heap.get?_push_of_some _ e⟩⟩
theorem Ai{T:String}{r d:Addr}{n:Nat}{G:Nat->Value->Prop}{OK:Heap->Prop}{C:List Value->Shared->Prop}(S:PySem.W.KdlSrc P w T r d n G OK)(hh:A.handled=none)(ok:OK s.heap)(hz:n<=sizeLine)
  (fin:∀(hp:Heap)(tk:Nat)(got:Array Value),(∀ b o,s.heap.get? b=some o->hp.get? b=some o)->s.heap.objs.size<=hp.objs.size->ItemsOf G got n->C got.toList { s with heap:=hp,toks:=tk }):wpAny (model P w) A (collect (.ref r)) C E s:=by
 obtain⟨lr,ld⟩:=S.there _ ok
 unfold collect
 refine wpAny_bind (wpAny_runValue (codeAny_builtin PySem.F.entry_proto_collect ?_))
 rw[Around.under_plainId PySem.F.plain_proto_collect _]
 show wpAny _ A.in1 (newList [] >>= fun q=>again (.builtin "list.__iadd__" ⟨[q,.ref r],[]⟩)) _ _ s
 refine wpAny_bind (wpAny_newObj_type (wpAny_pure ⟨plainId_quiet PySem.F.plain_list_iadd _,codeAny_builtin PySem.F.entry_list_iadd ?_⟩))
 rw[Around.under_plainId PySem.F.plain_list_iadd _]
 have new:(s.heap.push { cls:=.type "list",data:=.seq ([]:List Value).toArray }).get? s.heap.objs.size=some { cls:=.type "list",data:=.seq #[] }:=Heap.get?_push_size _ rfl
 have done:∀(hp:Heap)(tk:Nat)(got:Array Value)(c:Nat),(∀ b o,b≠s.heap.objs.size->(s.heap.push { cls:=.type "list",data:=.seq ([]:List Value).toArray }).get? b=some o->hp.get? b=some o)->hp.get? s.heap.objs.size=some { cls:=.type "list",dict:=none,data:=.seq got c,slots:=#[] }->ItemsOf G got n ->
   wpAny (model P w) A (load s.heap.objs.size >>= fun o=>match o.data with|.seq xs _=>pure xs.toList|_=>unsupported "internal:collect") C E { s with heap:=hp,toks:=tk }:=fun hp tk got c k1 k2 k3=>by
  refine wpAny_bind (wpAny_load k2 (wpAny_pure (fin hp tk got (fun b o e=>k1 b o (Nat.ne_of_lt (Heap.lt_size e)) (Heap.get?_push_of_some _ e)) (Nat.le_of_lt (Heap.lt_size k2)) k3)))
 have go:=PySem.W.kdl_extend (A:=A) (s:={ s with heap:=s.heap.push { cls:=.type "list",data:=.seq ([]:List Value).toArray } })
  (R:=fun(x:Result)(s2:Shared)=>x=.ok (.ret (.ref s.heap.objs.size))/\wpAny (model P w) A (load s.heap.objs.size >>= fun o=>match o.data with|.seq xs _=>pure xs.toList|_=>unsupported "internal:collect") C E s2)
  S hh (S.keep _ _ ok fun b _ o e=>Heap.get?_push_of_some _ e) s.heap.objs.size (Nat.ne_of_gt lr) (Nat.ne_of_gt ld) (.ref s.heap.objs.size) 0 new (fun hp tk got c k1 k2 k3=>⟨rfl,done hp tk got c k1 k2 k3⟩) hz
 refine wpAny_mono go (fun x s2 y=>?_) fun e s2 y=>?_
 ·cases x with
  |done f=>
   obtain⟨e,y⟩:=y
   cases e
   exact y
  |again c=>
   refine⟨y.1,codeAny_mono y.2 fun q s3 z=>?_⟩
   obtain⟨e,z⟩:=z
   subst e
   exact z
 ·exact absurd y.1 (by intro z;cases z)
end
open PySem.W
section
variable{X:Cx}
theorem RZ{cs:List Cell}{n:Nat}{o:Array Nat}(hn:n=cs.length)(g:Good n o)(up:jm fW (fun i=>cs.getD i (0,0)) o n):Asc (o.toList.map fun i=>cs.getD i (0,0)):=by
 unfold Asc
 rw[List.pairwise_iff_getElem]
 intro i j hi hj hij
 rw[List.length_map,Array.length_toList,g.size] at hi hj
 have hle:=up.le mX (j-i) i (by lia)
 have e1:i+(j-i)=j:=by lia
 rw[e1] at hle
 have hno:=of_decide_eq_false hle
 have sz:=g.size
 have key:∀ k,(hk:k<n)->Ky (fun i=>cs.getD i (0,0)) o k=(o.toList.map fun i=>cs.getD i (0,0))[k]'(by rw[List.length_map,Array.length_toList,sz];exact hk):=fun k hk=>by
  unfold Ky
  rw[List.getElem_map,Array.getD_eq_getD_getElem?,Array.getElem?_eq_getElem (by lia)]
  rfl
 rw[<- key i hi,<- key j hj];exact hno
theorem Ah{K:PySem.W.Frag}{H:Hp}{f:Cell->V}:∀ {cs:List Cell} {ws:List (List Key×Addr×Value)},KT H (cs.map fun c=>(gG c,f c)) ws->aN K H (ws.map fun x=>V.ref x.2.1) (cs.map ao)
 |[],ws,h=>by cases h;exact .nil
 |c::cs,ws,h=>by
  cases h with
  |@cons p q ps qs hq t=>exact .cons (.tup (show H q.2.1=some (.tup [.int c.1,.int c.2]) from hq.2.1) (.cons (.int _) (.cons (.int _) .nil))) (Ah t)
theorem xO:∀(ws:List (List Key×Addr×Value)),Vals (ws.map fun x=>V.ref x.2.1) (ws.map fun x=>Value.ref x.2.1)
 |[]=>.nil
 |x::ws=>.cons rfl (xO ws)
def M9(K:PySem.W.Frag):List V->Hp->VK->Prop:=fun xs H Q=>∃(d:Addr)(cs:List Cell)(f:Cell->V),xs=[.ref d]/\H d=some (.dT (cs.map fun c=>(gG c,f c)))/\cs.length<64/\∀ l ws ds,H l=none->aN K H ws (ds.map ao)->ds.Perm cs->Asc ds->Q (.ref l) (upd H l (.lst ws))
theorem Cw(hc:X.calm=true)(hu:X.A.units+60<cLine):cA X (.builtin "sorted") (M9 X.K):=by
 intro pins s σ H xs us Q I r h
 obtain⟨d,cs,f,rfl,e,h64,q⟩:=h
 obtain⟨u,rfl,ru⟩:=vals1 r
 cases ru
 obtain⟨z,lo,ws,rel,ob,es,ep,g1,g2,g3,g4,g5⟩:=K6 I.hok e
 have g1':s.heap.get? d=some { cls:=.type "dict",dict:=none,data:=.dict es ep,slots:=#[] }:=by
  obtain⟨c1,c2,c3,c4⟩:=ob
  obtain⟨a1,a2,a3⟩:=g2
  dsimp only at a1 a2 a3 g3
  subst a1 a2 a3 g3
  exact g1
 have D:=Ah (K:=X.K) rel
 have rv:=xO ws
 have nw:es.size=ws.length:=size_of_entries g4
 have hl:ws.length=cs.length:=by have:=D.length;rwa[List.length_map,List.length_map] at this
 have hz:es.size<=sizeLine:=by rw[sizeLine_eq];lia
 refine Calls.call_function_entry kind_sorted plain_sorted entry_sorted (args_sorted1 _) ?_
 unfold Builtin.«sorted»
 refine wpAny_bind (m:=checkCount "sorted" 1 1 _) (wpAny_pure (wpAny_bind (Ai (Pj d lo es ep) (I.ok.hd hc) g1' hz fun hp tk got keep Nt items=>?_)))
 have eg:got.toList=ws.map fun x=>Value.ref x.2.1:=by
  refine List.ext_getElem? fun j=>?_
  rw[Array.getElem?_toList,List.getElem?_map]
  by_cases hj:j<es.size
  ·have hg:j<got.size:=by rw[items.1];exact hj
   obtain⟨_,ev⟩:=items.2 j got[j] (Array.getElem?_eq_getElem hg)
   rw[Array.getElem?_eq_getElem hg,ev]
   have hw:j<ws.length:=by lia
   have:es.toList[j]?=(ws.map (entryOfKey (tupleKind (dR X.prog X.w))))[j]? :=by rw[g4]
   rw[Array.getElem?_toList,Array.getElem?_eq_getElem hj,List.getElem?_map,List.getElem?_eq_getElem hw] at this
   rw[List.getElem?_eq_getElem hw]
   have e2:=Option.some.inj this
   rw[e2];rfl
  ·rw[Array.getElem?_eq_none (by rw[items.1];lia),List.getElem?_eq_none (by lia)];rfl
 rw[eg]
 have lus:(ws.map fun x=>Value.ref x.2.1).length=cs.length:=by rw[List.length_map,hl]
 have lvs:(ws.map fun x=>V.ref x.2.1).length=cs.length:=by rw[List.length_map,hl]
 generalize hvs:(ws.map fun x=>V.ref x.2.1)=vs at D rv lvs
 generalize hus:(ws.map fun x=>Value.ref x.2.1)=its at rv lus
 have hz2:its.length<=sizeLine:=by rw[sizeLine_eq];lia
 refine wpAny_bind (wpAny_newList ?_ (by simpa using hz2))
 have at0:(hp.push (seqObj "list" its.toArray 0)).get? hp.objs.size=some (seqObj "list" its.toArray 0):=Heap.get?_push_size _ rfl
 show wpAny _ _ _ _ _ { s with heap:=hp.push (seqObj "list" its.toArray 0),toks:=tk }
 refine wpAny_bind (wpAny_holding (wpAny_call_entry slot_list_sort ⟨_,at0,rfl⟩ entry_list_sort (uz (h0:=s.heap) mX (by show X.A.units+1+1+2<cLine;lia) (zN I D rv) (by lia) at0 (fun b o eb=>⟨Heap.get?_push_of_some _ (keep b o eb),Nat.ne_of_lt (Heap.lt_size (keep b o eb))⟩) fun o g up=>⟨_,rfl,wpAny_pure ⟨_,rfl,?_⟩⟩) (args_list_sort _)))
 obtain⟨en,he⟩:=sortedHeap_at (vs:=its) (out:=(byP its o).toArray) at0
 have hn:H hp.objs.size=none:=I.hok.fresh Nt
 have bd:∀ i∈o.toList,i<vs.length:=fun i hi=>by rw[lvs,<- lus];exact List.mem_range.mp (g.perm.mem_iff.mp hi)
 have rv':Vals (o.toList.map fun i=>vs.getD i .non) (byP its o):=uh rv o.toList bd
 have dv:aN X.K H (o.toList.map fun i=>vs.getD i .non) ((o.toList.map fun i=>cs.getD i (0,0)).map ao):=by
  have:=Fx (d0:=ao (0,0)) D o.toList bd
  have e1:(o.toList.map fun i=>(cs.map ao).getD i (ao (0,0)))=((o.toList.map fun i=>cs.getD i (0,0)).map ao):=by
   rw[List.map_map]
   refine List.map_congr_left fun i hi=>?_
   simp only[List.getD_eq_getElem?_getD,List.getElem?_map,Function.comp]
   cases cs[i]?<;>rfl
  rw[<- e1];exact this
 have pc:(o.toList.map fun i=>cs.getD i (0,0)).Perm cs:=nH (by rw[<- lus];exact g.perm)
 have as:Asc (o.toList.map fun i=>cs.getD i (0,0)):=RZ (by lia) g up
 have lo':(o.toList.map fun i=>vs.getD i .non).length<=sizeLine:=by
  rw[List.length_map,Array.length_toList,g.size];exact hz2
 refine⟨.ref hp.objs.size,upd H hp.objs.size (.lst (o.toList.map fun i=>vs.getD i .non)),I.laid (a:=hp.objs.size) (o:=.lst (o.toList.map fun i=>vs.getD i .non)) (t':=tk) (fun b o eb=>?_) Nt ⟨lo',byP its o,en,rv',he⟩,rfl,q _ _ _ hn dv pc as⟩
 have eb':=keep b o eb
 rw[sortedHeap_old (Nat.ne_of_lt (Heap.lt_size eb')) (by rw[size_push'];exact Nat.lt_succ_of_lt (Heap.lt_size eb'))]
 exact Heap.get?_push_of_some _ eb'
theorem Pa{K:PySem.W.Frag}(hc:X.calm=true)(hu:X.A.units+60<cLine)(hK:X.K=K:=by rfl):cA X (.builtin "sorted") (M9 K):=by subst hK;exact Cw hc hu
end
end L2
namespace L2
open PySem PySem.Spec PyProof.Rows
section
variable{X:Cx}{pins:List (Addr×Obj)}{σ:L2.St}{H:Hp}{s:Shared}{h':Heap}
theorem Inv.R6{t':Nat}{e it:Addr}(I:Inv X pins σ H s)(k:∀ b o,b≠e->b≠it->s.heap.get? b=some o->h'.get? b=some o)(he:nP X pins H e)(hi:nP X pins H it)(le:∃ o,h'.get? e=some o)(li:∃ o,h'.get? it=some o):Inv X pins σ H { s with heap:=h',toks:=t' }:=by
 obtain⟨e0,e1,e2,e3,e4,e5⟩:=he
 obtain⟨i0,i1,i2,i3,i4,i5⟩:=hi
 have ne:∀ b u,H b=some u->b≠e:=fun b u q z=>by rw[z,e0] at q;cases q
 have ni:∀ b u,H b=some u->b≠it:=fun b u q z=>by rw[z,i0] at q;cases q
 have kk:∀ b o,b∉[e,it]->s.heap.get? b=some o->h'.get? b=some o:=fun b o hb q=>k b o (fun z=>hb (by simp[z])) (fun z=>hb (by simp[z])) q
 refine I.step (g':=s.gens) (d':=s.drawn) (ch:=[e,it]) (fun b hb=>?_) (fun b o _ _ hc q _=>kk b o hc q) (fun b o _ _ hc q _=>⟨o.slots,kk b o hc q⟩) (fun _ _ _ _ n=>n)
  (fun b o hc q=>⟨o,kk b o hc q⟩) (fun _ _ q=>q) (fun _ _ _ q=>q) (fun b ps q=>⟨#[],by rw[q];simp⟩) (fun m hm=>?_) (fun b u q=>?_) I.bare
 ·rcases List.mem_cons.mp hb with z|z
  ·subst z;exact⟨e3,e1,e4,e5⟩
  ·rw[List.mem_singleton.mp z];exact⟨i3,i1,i4,i5⟩
 ·obtain⟨o,es,ep,ho,r⟩:=hm
  exact⟨o,es,ep,k _ o (Ne.symm e1) (Ne.symm i1) ho,r⟩
 ·refine(I.hok b u q).stay (fun c v hc w=>?_) (fun _ w=>w) fun _ _ w=>w
  rcases hc with z|z
  ·rw[z] at w ⊢;exact k b v (ne b u q) (ni b u q) w
  ·exact k c v (ne c _ z) (ni c _ z) w
end
def Ite(K:PySem.W.Frag)(a:Addr):It:=
 ⟨fun i H=>∃ xs x,SqL K H a xs/\xs[i]?=some x,fun i H v H'=>∃ t x,(∀ xs,SqL K H a xs->xs[i]?=some x)/\H t=none/\v=.ref t/\H'=upd H t (.tup [.int i,x]),fun i H=>∃ xs,SqL K H a xs/\xs.length<=i⟩
theorem Js{P:Program}{w:World}{K:PySem.W.Frag}{elts:List Expr}{k:Nat}{pos:Pos}(a e it:Addr)(ne:e≠it) :
  Turn P w K (.Tuple elts k pos) (Ite K a) [e,it] e (fun i h=>(∃ old,IsEnum h e it i old)/\h.IsListIter it a i) where
 mem:=by simp
 obj:=fun i h st b hb=>by
  obtain⟨⟨old,h1⟩,o,h2,c,d⟩:=st
  rcases List.mem_cons.mp hb with z|z
  ·subst z;exact⟨_,h1,fun v z=>by cases z⟩
  ·rw[List.mem_singleton.mp z];exact⟨o,h2,fun v z=>by rw[d] at z;cases z⟩
 keep:=fun i h h' st kp=>⟨let ⟨old,h1⟩:=st.1;⟨old,kp e (by simp) _ h1⟩,st.2.at fun o q=>kp it (by simp) o q⟩
 item:=by
  intro X hP hw hK hc i pins s σ H E I hf st hg
  subst hP hw hK
  obtain⟨xs,x,hq,hx⟩:=hg
  obtain⟨its,rv,p,hz⟩:=I.list hq
  obtain⟨u,hu,ru⟩:=rv.get hx
  obtain⟨⟨old,h1⟩,h2⟩:=id st
  have fe:=hf e (by simp)
  have fi:=hf it (by simp)
  refine wpAny_pyNext_enum_item h1 h2 p.isList (x:=u) (by simpa using hu) ne fun h' ho hit' hT hsz hk=>?_
  refine⟨_,rfl,wpAny_letOwnedTupleGo_enum ho fun h2' he2 hs2=>?_⟩
  have lte:e<s.heap.objs.size:=Heap.lt_size h1
  have lti:it<s.heap.objs.size:=let ⟨_,q,_⟩:=h2;Heap.lt_size q
  have I1:Inv X pins σ H { s with heap:=h2',toks:=s.toks+1 }:=I.R6 (fun b o b1 b2 q=>(hs2.2 b b1).trans (hk b o b1 b2 q)) fe fi ⟨_,he2⟩ (let ⟨o,q,_⟩:=hit';⟨o,(hs2.2 it ne.symm).trans q⟩)
  have hn:H s.heap.objs.size=none:=I.hok.fresh (Nat.le_refl _)
  obtain⟨t0,t1,t2,t3,t4,t5⟩:=I.Af (H':=H) (Nat.le_refl _) hn
  have hT2:h2'.get? s.heap.objs.size=some { cls:=.type "tuple",data:=.seq #[.int i s.toks,u] }:=(hs2.2 _ (Nat.ne_of_gt lte)).trans hT
  have I2:Inv X pins σ (upd H s.heap.objs.size (.tup [.int i,x])) { s with heap:=h2',toks:=s.toks+1 }:=I1.track hn I.sz t1 t4 t5 ⟨by show 2<=sizeLine;rw[sizeLine_eq];decide,[.int i s.toks,u],.cons ⟨_,rfl⟩ (.cons ru .nil),?_⟩
  ·refine⟨.ref s.heap.objs.size,_,I2,rfl,⟨_,x,fun ys hy=>by rw[I.vh hy hq];exact hx,hn,rfl,rfl⟩,⟨⟨u,by simpa using he2⟩,hit'.at fun o q=>(hs2.2 it ne.symm).trans q⟩,fun b hb=>?_⟩
   rcases List.mem_cons.mp hb with z|z
   ·rw[z,aO (Nat.ne_of_lt lte)];exact fe.1
   ·rw[List.mem_singleton.mp z,aO (Nat.ne_of_lt lti)];exact fi.1
  ·exact⟨_,hT2,rfl,0,rfl⟩
 done:=by
  intro X hP hw hK hc i pins s σ H E I hf st hg
  subst hP hw hK
  obtain⟨xs,hq,hx⟩:=hg
  obtain⟨its,rv,p,hz⟩:=I.list hq
  obtain⟨⟨old,h1⟩,h2⟩:=id st
  obtain⟨f0,f1,f2,f3,f4,f5⟩:=hf it (by simp)
  have hl:=rv.length
  exact wpAny_pyNext_enum_end (I.ok.hd hc) h1 h2 p.isList (by simp;lia) fun h' eb=>⟨rfl,I.turned (t':=s.toks) (fun b o hb q=>eb b o hb q) f0 f1 f3 f4 f5⟩
 self:=fun _ _ _ _ _ st h=>let ⟨_,h1⟩:=st.1;wpAny_pyIter_enum h1 h
section
variable{X:Cx}{elts:List Expr}{k:Nat}{tpos p pos:Pos}{l:Expr}{ta:TA}
def Rm(K:PySem.W.Frag)(ta:TA):TI:=fun σ H R=>ta σ H fun vs H1=>∃ a,vs=[.ref a]/\(∃ xs,SqL K H1 a xs)/\R (Ite K a) H1
theorem Ql (hg:Gl X "enumerate") (hm:X.mg "enumerate" = none) (ha:PA X [l] ta) (hs:starEach [l] X.env=[(false,eval l X.env)]:=by rfl):PI X (.Tuple elts k tpos) (.Call (.Name "enumerate" p) [l] [] pos) (Rm X.K ta):=by
 intro pins s σ H R I h
 refine Call_ (qT I hg hm yt (PyProof.Rows.callWith_type1 (thn (ha pos pins s σ H _ I h) fun us s1 ⟨vs,H1,I1,r1,q1⟩=>?_) hs rfl))
 obtain⟨a,e,⟨xs,hq⟩,q⟩:=q1
 subst e
 cases r1 with
 |cons r rr=>
   cases rr
   cases r
   obtain⟨its,rv,pl,hz⟩:=I1.list hq
   refine call_enumerate_list pl.isList fun h' he hit hsz keep=>wpAny_pyIter_enum he ?_
   have ne:s1.heap.objs.size+1≠s1.heap.objs.size:=Nat.succ_ne_self _
   refine⟨s1.heap.objs.size+1,[s1.heap.objs.size+1,s1.heap.objs.size],_,_,H1,rfl,I1.kept (t':=s1.toks) keep,Js a _ _ ne,⟨⟨_,he⟩,hit⟩,fun b hb=>?_,q⟩
   rcases List.mem_cons.mp hb with z|z
   ·rw[z];exact I1.Af (Nat.le_succ _) (I1.hok.fresh (Nat.le_succ _))
   ·rw[List.mem_singleton.mp z];exact I1.Af (Nat.le_refl _) (I1.hok.fresh (Nat.le_refl _))
theorem Aj{K:PySem.W.Frag} (hg:Gl X "enumerate") (hm:X.mg "enumerate" = none) (ha:RA X [l] ta) (hK:X.K=K:=by rfl) (hs:notStar l=true:=by rfl):RI X (.Tuple elts k tpos) (.Call (.Name "enumerate" p) [l] [] pos) (Rm K ta):=by
 subst hK
 exact⟨Ql hg hm ha.ok (jd hs)⟩
end
theorem Ae{K:PySem.W.Frag}{a:Addr}{xs:List V}{g:TG}{tb:TS}{D:Ends}{σ:L2.St}{H:Hp}(R:Nat->L2.St->Hp->Prop)(h0:R 0 σ H)(hq:∀ i σ H,i<=xs.length->R i σ H->SqL K H a xs)
  (hs:∀ i x σ H t,xs[i]?=some x->R i σ H->H t=none->g (.ref t) σ (upd H t (.tup [.int i,x])) fun σ2 H2=>tb { D with nx:=R (i+1),ct:=R (i+1),bk:=D.nx } σ2 H2)
  (hd:∀ σ H,R xs.length σ H->D.nx σ H) :
  ∃ W:Nat->Nat->L2.St->Hp->Prop,(∃ m,W 0 m σ H)/\∀ i m σ H,W i m σ H->((Ite K a).stop i H/\D.nx σ H)\/((Ite K a).go i H/\∃ N:L2.St->Hp->Prop,(∀ σ' H',N σ' H'->∃ m',m'<m/\W (i+1) m' σ' H')/\∀ x H',(Ite K a).yld i H x H'->g x σ H' fun σ2 H2=>tb { D with nx:=N,ct:=N,bk:=D.nx } σ2 H2):=by
 refine⟨fun i m σ H=>m=xs.length-i/\i<=xs.length/\R i σ H,⟨xs.length,by lia,Nat.zero_le _,h0⟩,?_⟩
 rintro i m σ H ⟨rfl,hi,r⟩
 by_cases hlt:i<xs.length
 ·refine .inr ⟨⟨xs,xs[i],hq i σ H hi r,by simp[hlt]⟩,R (i+1),fun σ' H' r'=>⟨xs.length-(i+1),by lia,rfl,hlt,r'⟩,?_⟩
  rintro v H' ⟨t,x,hx,nt,rfl,rfl⟩
  exact hs i x σ H t (hx xs (hq i σ H hi r)) r nt
 ·have e:i=xs.length:=by lia
  subst e
  exact .inl ⟨⟨xs,hq _ σ H (Nat.le_refl _) r,Nat.le_refl _⟩,hd σ H r⟩
end L2
namespace L2
open PySem
def Ris(xs:Array Nat):Prop:=xs.toList.Pairwise (· < ·)
theorem Ris.lt{xs:Array Nat}(r:Ris xs){i j:Nat}(hij:i<j)(hj:j<xs.size):xs[i]'(by omega)<xs[j]:=by
 have:=List.pairwise_iff_getElem.mp r i j (by rw[Array.length_toList];omega) (by rw[Array.length_toList];omega) hij
 simpa using this
theorem Ris.le{xs:Array Nat}(r:Ris xs){i j:Nat}(hij:i<=j)(hj:j<xs.size):xs[i]'(by lia)<=xs[j]:=by
 rcases Nat.lt_or_eq_of_le hij with h|h
 ·exact Nat.le_of_lt (r.lt h hj)
 ·subst h;exact Nat.le_refl _
structure Cut(xs:Array Nat)(j b:Nat):Prop where
 le:b<=xs.size
 lo:∀ k,(hk:k<xs.size)->k<b->xs[k]<j
 hi:∀ k,(hk:k<xs.size)->b<=k->j<=xs[k]
theorem uF{xs:Array Nat}(r:Ris xs)(j:Nat):∀(fuel lo hi:Nat),hi<=xs.size->lo<=hi->hi-lo<=fuel->(∀ k,(hk:k<xs.size)->k<lo->xs[k]<j)->(∀ k,(hk:k<xs.size)->hi<=k->j<=xs[k])->Cut xs j (SetTable.below.go xs j fuel lo hi)
 |0,lo,hi,h1,h2,h3,a,b=>by
  have e:lo=hi:=by lia
  subst e
  exact⟨h1,a,b⟩
 |fuel+1,lo,hi,h1,h2,h3,a,b=>by
  unfold SetTable.below.go
  by_cases h:lo<hi
  ·rw[if_pos h]
   have hm:(lo+hi) / 2<xs.size:=by lia
   have eg:xs.getD ((lo+hi) / 2) j=xs[(lo+hi) / 2]:=by simp[Array.getD,hm]
   dsimp only
   rw[eg]
   by_cases hv:xs[(lo+hi) / 2]<j
   ·rw[if_pos hv]
    exact uF r j fuel _ hi h1 (by lia) (by lia) (fun k hk hl=>Nat.lt_of_le_of_lt (r.le (by lia) hm) hv) b
   ·rw[if_neg hv]
    exact uF r j fuel lo _ (by lia) (by lia) (by lia) a (fun k hk hl=>Nat.le_trans (Nat.not_lt.mp hv) (r.le hl hk))
  ·rw[if_neg h]
   have e:lo=hi:=by lia
   subst e
   exact⟨h1,a,b⟩
theorem qH{xs:Array Nat}(r:Ris xs)(j:Nat):Cut xs j (SetTable.below xs j):=
 uF r j _ _ _ (Nat.le_refl _) (Nat.zero_le _) (by lia) (fun _ _ h=>absurd h (Nat.not_lt_zero _)) (fun k hk h=>absurd hk (Nat.not_lt.mpr h))
theorem Cut.uniq{xs:Array Nat}{j b c:Nat}(x:Cut xs j b)(y:Cut xs j c):b=c:=by
 rcases Nat.lt_trichotomy b c with h|h|h
 ·have hb:b<xs.size:=Nat.lt_of_lt_of_le h y.le
  have:=x.hi b hb (Nat.le_refl _)
  have:=y.lo b hb h
  lia
 ·exact h
 ·have hc:c<xs.size:=Nat.lt_of_lt_of_le h x.le
  have:=y.hi c hc (Nat.le_refl _)
  have:=x.lo c hc h
  lia
structure Tab(b:Bool)(t:SetTable):Prop where
 led:t.led=b
 ris:Ris t.place
 dum:t.dummies=#[]
theorem Jg(n:Nat):Ris (Array.range n):=by
 unfold Ris
 rw[Array.toList_range]
 exact List.pairwise_lt_range
theorem Tab.fresh(f m:Nat)(b:Bool):Tab b (SetTable.fresh f m b):=⟨rfl,List.Pairwise.nil,rfl⟩
theorem Tab.standIn{b:Bool}{t:SetTable}(x:Tab b t)(n:Nat):Tab b (t.standIn n):=⟨x.led,Jg n,rfl⟩
theorem Tab.orStandIn{b:Bool}{t:SetTable}(x:Tab b t)(n:Nat):Tab b (t.orStandIn n):=by
 unfold SetTable.orStandIn
 split
 ·exact x
 ·exact x.standIn n
theorem has_none(j:Nat):SetTable.has #[] j=false:=by
 unfold SetTable.has
 simp
theorem Ea{xs:Array Nat}(r:Ris xs){j:Nat}(h:xs[SetTable.below xs j]?≠some j):Ris (SetTable.insertAt xs (SetTable.below xs j) j):=by
 have c:=qH r j
 generalize SetTable.below xs j=b at c h
 unfold Ris
 rw[SetTable.toList_insertAt]
 have e:xs.toList=xs.toList.take b++xs.toList.drop b:=(List.take_append_drop b xs.toList).symm
 have r':=r
 unfold Ris at r'
 rw[e] at r'
 obtain⟨p1,p2,p3⟩:=List.pairwise_append.mp r'
 have lo:∀ a∈xs.toList.take b,a<j:=fun a ha=>by
  obtain⟨k,hk,e⟩:=List.getElem_of_mem ha
  rw[List.length_take,Array.length_toList] at hk
  rw[List.getElem_take] at e
  have:=c.lo k (by lia) (by lia)
  rw[<- e];simpa using this
 have hi:∀ a∈xs.toList.drop b,j<a:=fun a ha=>by
  obtain⟨k,hk,e⟩:=List.getElem_of_mem ha
  rw[List.length_drop,Array.length_toList] at hk
  rw[List.getElem_drop] at e
  have hk':b+k<xs.size:=by lia
  have h1:=c.hi (b+k) hk' (by lia)
  have e':xs[b+k]=a:=by simpa using e
  rw[e'] at h1
  rcases Nat.lt_or_eq_of_le h1 with z|z
  ·exact z
  ·exfalso
   by_cases hz:k=0
   ·subst hz
    refine h ?_
    rw[Array.getElem?_eq_getElem (by lia)]
    congr 1
    simpa [z] using e'
   ·have hb:b<xs.size:=by lia
    have:=r.lt (i:=b) (j:=b+k) (by lia) hk'
    have:=c.hi b hb (Nat.le_refl _)
    lia
 refine List.pairwise_append.mpr ⟨p1,List.pairwise_cons.mpr ⟨hi,p2⟩,fun a ha c' hc=>?_⟩
 rcases List.mem_cons.mp hc with z|z
 ·rw[z];exact lo a ha
 ·exact p3 a ha c' z
theorem xX{t:SetTable}(hd:t.dummies=#[])(j:Nat):t.slot j≠.dummy/\(t.slot j=.empty->t.place[SetTable.below t.place j]?≠some j):=by
 unfold SetTable.slot
 dsimp only
 rw[hd,has_none]
 by_cases h:(t.place[SetTable.below t.place j]?==some j)=true
 ·rw[if_pos h]
  exact⟨(by intro z;cases z),(by intro z;cases z)⟩
 ·rw[if_neg h]
  refine⟨by simp,fun _ z=>h (by rw[z];simp)⟩
theorem sS{t:SetTable}(hd:t.dummies=#[])(f:Nat->Int)(h:Int):∀(fuel:Nat)(p:SetTable.Probe)(j:Nat)(d:Option Nat),p.dummy=none->SetTable.probe.go t f h fuel p=some (.empty j d)->d=none/\t.slot j=.empty
 |0,p,j,d,_,e=>by cases e
 |fuel+1,p,j,d,hp,e=>by
  unfold SetTable.probe.go at e
  have adv:(t.advance p).dummy=none:=by
   unfold SetTable.advance
   split
   ·exact hp
   ·exact hp
  split at e
  ·rename_i q
   have e:=Option.some.inj e
   injection e with e1 e2
   subst e1 e2
   exact⟨hp,q⟩
  ·rename_i q
   exact absurd q (xX hd _).1
  ·split at e
   ·cases e
   ·exact sS hd f h fuel _ j d adv e
theorem Tab.layNew{b:Bool}{t:SetTable}(x:Tab b t)(es:Array (Int×Value))(h:Int)(v:Value):Tab b (layNew t es h v).2.1:=by
 unfold PySem.layNew
 split
 ·rename_i slot was e
  refine Tab.orStandIn ?_ _
  unfold SetTable.freeSlot at e
  split at e
  ·rename_i j d q
   obtain⟨e1,e2⟩:=Prod.mk.inj (Option.some.inj e)
   unfold SetTable.probe at q
   obtain⟨rfl,hs⟩:=sS x.dum _ _ _ _ _ _ rfl q
   have e1:j=slot:=e1
   subst e1
   unfold SetTable.put
   dsimp only
   refine⟨x.led,Ea x.ris ((xX x.dum j).2 hs),?_⟩
   show(if SetTable.has t.dummies j=true then _ else t.dummies)=#[]
   rw[x.dum,has_none]
   rfl
  ·cases e
 ·exact x.standIn _
theorem Mr{n:Nat}{g:Nat->Option Nat}:Ris ((((List.range n).filterMap fun j=>(g j).map (j,·)).map (·.1)).toArray):=by
 unfold Ris
 simp only[List.pairwise_map,List.pairwise_filterMap]
 refine List.pairwise_lt_range.imp fun hab a ha b hb=>?_
 obtain⟨_,_,rfl⟩:=Option.map_eq_some_iff.mp ha
 obtain⟨_,_,rfl⟩:=Option.map_eq_some_iff.mp hb
 exact hab
theorem Tab.relayAll{b:Bool}{t:SetTable}(x:Tab b t)(es:Array (Int×Value))(n:Nat):Tab b (relayAll t es n).2.1:=by
 unfold PySem.relayAll
 split
 ·rename_i t' o e
  dsimp only
  split
  ·unfold SetTable.relaid SetTable.laid at e
   cases hl:SetTable.layClean (SetTable.sizeAbove n-1) (es.map (·.1)) with
   |none=>rw[hl] at e;cases e
   |some ow=>
    rw[hl] at e
    obtain⟨e1,_⟩:=Prod.mk.inj (Option.some.inj e)
    rw[<- e1]
    exact⟨x.led,Mr,rfl⟩
  ·exact x.standIn _
 ·exact x.standIn _
end L2
namespace L2
open PySem PySem.Spec PyProof.Rows
abbrev cD(es:Array (Int×Value))(ep:Nat)(t:SetTable):Obj:={ cls:=.type "set",dict:=none,data:=.set es ep t,slots:=#[] }
def oK:Int×Value->Int
 |(_,.int n _)=>n
 |_=>0
def RW(e:Int×Value):Prop:=∃ d t,e=(hashInt d,.int d t)
structure qw(b:Bool)(es:Array (Int×Value))(t:SetTable)(ds:List Int):Prop where
 tab:Tab b t
 fit:t.fits es.size=true
 els:∀ e∈es.toList,RW e
 ids:es.toList.map oK=ds
 nd:ds.Nodup
 sm:ds.length<4000
def jK(b:Bool)(h:Heap)(a:Addr)(ds:List Int):Prop:=∃ es ep t,h.get? a=some (cD es ep t)/\qw b es t ds
section
variable{P:Program}{w:World}{A:Around}{E:Value->Shared->Prop}{s:Shared}{b:Bool}{a:Addr}{ds:List Int}
theorem qw.len{es:Array (Int×Value)}{t:SetTable}(x:qw b es t ds):es.size=ds.length:=by
 rw[<- x.ids,List.length_map,Array.length_toList]
theorem qw.elems{es:Array (Int×Value)}{t:SetTable}(x:qw b es t ds):ElemsOf (intKind P w) es.toList:=fun e he=>by
 obtain⟨d,t,rfl⟩:=x.els e he
 exact⟨⟨d,by simp[intKind,Value.isInt],rfl⟩,rfl⟩
theorem qw.mem{es:Array (Int×Value)}{t:SetTable}(x:qw b es t ds)(d:Int):d∈ds↔∃ e∈es.toList,(intKind P w).is d e.2=true:=by
 rw[<- x.ids]
 constructor
 ·intro h
  obtain⟨e,he,q⟩:=List.mem_map.mp h
  obtain⟨d',t,rfl⟩:=x.els e he
  have q:d'=d:=q
  exact⟨_,he,by subst q;simp[intKind,Value.isInt]⟩
 ·rintro⟨e,he,q⟩
  obtain⟨d',t,rfl⟩:=x.els e he
  refine List.mem_map.mpr ⟨_,he,?_⟩
  have q:Value.isInt d (.int d' t)=true:=q
  obtain⟨t',e'⟩:=Value.isInt_shape q
  injection e'
theorem jK.kept{h h':Heap}(S:jK b h a ds)(k:∀ o,h.get? a=some o->h'.get? a=some o):jK b h' a ds:=let ⟨es,ep,t,e,x⟩:=S;⟨es,ep,t,k _ e,x⟩
theorem jK.put{es es':Array (Int×Value)}{ep:Nat}{t t':SetTable}{h:Heap}{ds':List Int}(e:h.get? a=some (cD es ep t))(x:qw b es' t' ds'):(h.update a (Obj.putSet es' t')).get? a=some (cD es' (ep+1) t')/\jK b (h.update a (Obj.putSet es' t')) a ds':=by
 have g:(h.update a (Obj.putSet es' t')).get? a=some (cD es' (ep+1) t'):=Heap.get?_update_self (Obj.putSet es' t') e rfl
 exact⟨g,es',ep+1,t',g,x⟩
theorem vq{d:Int}(nd:ds.Nodup)(n:d∉ds):(ds++[d]).Nodup:=List.nodup_append.mpr ⟨nd,by simp,fun a ha c hc e=>n (by rw[<- List.mem_singleton.mp hc,<- e];exact ha)⟩
theorem Oa{d:Int}{tk:Tok}{Q:Bool->Shared->Prop}(S:jK b s.heap a ds)(hl:ds.length+1<4000)
  (hQ:∀ h' ds' r,Heap.SameBut a s.heap h'->jK b h' a ds'->(∀ n,n∈ds'↔(n∈ds\/n=d))->ds'.length<=ds.length+1->Q r { s with heap:=h' }) :
  wpAny (model P w) A (setAddHashed a (.int d tk) (hashInt d)) Q E s:=by
 obtain⟨es,ep,t,e,x⟩:=id S
 have el:=x.elems (P:=P) (w:=w)
 have sz:=x.len
 have big:∀ n:Nat,n<4000->n<scanBound:=fun n h=>Nat.lt_trans h (by decide)
 have line:∀ n:Nat,n<4000->n<=sizeLine:=fun n h=>fits_of_scanBound (big n h)
 have isd:(intKind P w).is d (.int d tk)=true:=by simp[intKind,Value.isInt]
 unfold setAddHashed setAddHashedIn
 refine wpAny_holding (wpAny_bind (wpAny_setState_of (o:=cD es ep t) e rfl x.fit ?_))
 dsimp only
 rw[byScan_of (knd:=intKind P w) rfl (big _ (by lia)) el,if_pos rfl]
 unfold setAddByScan
 refine wpAny_bind (wpAny_bind (wpAny_rule (wpAny_bind (wpAny_setScan_of (knd:=intKind P w) (k:=d) isd e rfl x.fit el ?_))))
 have gw:∀(c:Bool){s1:Shared}{Q':Unit->Shared->Prop},Q' () s1->wpAny (model P w) A (match c with|true=>rule "set.scan.the-table-gave-way" | false=>pure ()) Q' E s1:=fun c s1 Q' q=>by
  cases c
  ·exact wpAny_pure q
  ·exact wpAny_rule q
 cases hr:List.findIdx? (fun e=>(intKind P w).is d e.2) es.toList with
 |some j=>
  obtain⟨hj,pj,_⟩:=List.findIdx?_eq_some_iff_getElem.mp hr
  have hd:d∈ds:=(x.mem (P:=P) (w:=w) d).mpr ⟨_,List.getElem_mem hj,pj⟩
  dsimp only
  refine wpAny_pure (wpAny_pure ?_)
  have:=hQ s.heap ds false (Heap.SameBut.refl a s.heap) S (fun n=>⟨.inl,fun z=>z.elim id (fun z=>by rw[z];exact hd)⟩) (Nat.le_succ _)
  exact this
 |none=>
  have hd:d∉ds:=fun z=>by
   obtain⟨e',he,q⟩:=(x.mem (P:=P) (w:=w) d).mp z
   have:=List.findIdx?_eq_none_iff.mp hr e' he
   rw[q] at this;cases this
  dsimp only
  have pm:=layNew_perm t es (hashInt d) (.int d tk)
  have ft:=layNew_fits t es (hashInt d) (.int d tk)
  have tb:=x.tab.layNew es (hashInt d) (.int d tk)
  generalize layNew t es (hashInt d) (.int d tk)=L at pm ft tb ⊢
  obtain⟨es1,t1,was,gave⟩:=L
  dsimp only at pm ft tb ⊢
  rw[Array.toList_push] at pm
  have pd:(es1.toList.map oK).Perm (ds++[d]):=by
   have:=pm.map oK
   rw[List.map_append,x.ids] at this
   exact this
  have x1:qw b es1 t1 (es1.toList.map oK):=by
   refine⟨tb,ft,fun e' he=>?_,rfl,pd.nodup_iff.mpr (vq x.nd hd),?_⟩
   ·rcases List.mem_append.mp (pm.mem_iff.mp he) with z|z
    ·exact x.els e' z
    ·exact⟨d,tk,List.mem_singleton.mp z⟩
   ·rw[pd.length_eq,List.length_append,List.length_singleton];exact hl
  have l1:es1.size=ds.length+1:=by rw[x1.len,pd.length_eq,List.length_append,List.length_singleton]
  have fin:∀ h' (ds':List Int),Heap.SameBut a s.heap h'->jK b h' a ds'->ds'.Perm (ds++[d])->Q true { s with heap:=h' }:=fun h' ds' sb S' p=>
   hQ h' ds' true sb S' (fun n=>by rw[p.mem_iff,List.mem_append,List.mem_singleton]) (by rw[p.length_eq,List.length_append,List.length_singleton];exact Nat.le_refl _)
  have tail:∀ t2:SetTable,qw b es1 t2 (es1.toList.map oK)->∀ {k:Bool->Sem Unit},(∀(c:Bool){s1:Shared}{Q':Unit->Shared->Prop},Q' () s1->wpAny (model P w) A (k c) Q' E s1)->wpAny (model P w) A (do
    storeSet a es1 t2
    if(!was&&t2.tooFull)=true then
     k (relayAll t2 es1 (SetTable.grown es1.size)).2.2
     storeSet a (relayAll t2 es1 (SetTable.grown es1.size)).1 (relayAll t2 es1 (SetTable.grown es1.size)).2.1
     pure (some true)
    else pure (some true)) (fun r s2=>∃ h' ds',r=some true/\s2={ s with heap:=h' }/\Heap.SameBut a s.heap h'/\jK b h' a ds'/\ds'.Perm (ds++[d])) E s:=fun t2 x2 k hk=>by
   refine wpAny_bind (wpAny_storeSet_of (o:=cD es ep t) e rfl ?_ (line _ (by lia)))
   obtain⟨e1,S1⟩:=jK.put e x2
   have sb1:=Heap.SameBut.update s.heap a (Obj.putSet es1 t2)
   split
   ·have pr:=relayAll_perm t2 es1 (SetTable.grown es1.size)
    have fr:=relayAll_fits t2 es1 (SetTable.grown es1.size)
    have tr:=x2.tab.relayAll es1 (SetTable.grown es1.size)
    generalize relayAll t2 es1 (SetTable.grown es1.size)=G at pr fr tr ⊢
    obtain⟨es2,t3,g2⟩:=G
    dsimp only at pr fr tr ⊢
    have p2:(es2.toList.map oK).Perm (ds++[d]):=(pr.map oK).trans pd
    have x3:qw b es2 t3 (es2.toList.map oK):=⟨tr,fr,fun e' he=>x1.els e' (pr.mem_iff.mp he),rfl,p2.nodup_iff.mpr (vq x.nd hd),by rw[p2.length_eq,List.length_append,List.length_singleton];exact hl⟩
    have l2:es2.size<4000:=by rw[x3.len];exact x3.sm
    refine wpAny_bind (hk _ (wpAny_bind (wpAny_storeSet_of (o:=cD es1 (ep+1) t2) e1 rfl (wpAny_pure ?_) (line _ l2))))
    exact⟨_,_,rfl,rfl,sb1.trans (Heap.SameBut.update _ a _),(jK.put e1 x3).2,p2⟩
   ·exact wpAny_pure ⟨_,_,rfl,rfl,sb1,S1,pd⟩
  refine wpAny_bind (gw _ ?_)
  have last:∀(r:Option Bool)(s2:Shared),(∃ h' ds',r=some true/\s2={ s with heap:=h' }/\Heap.SameBut a s.heap h'/\jK b h' a ds'/\ds'.Perm (ds++[d]))->wpAny (model P w) A (match r with|some added=>pure added|none=>setAddHashedIn a (.int d tk) (hashInt d) 99999) Q E s2:=by
   rintro r s2 ⟨h',ds',rfl,rfl,sb,S',p⟩
   exact wpAny_pure (fin h' ds' sb S' p)
  split
  ·refine wpAny_bind ?_
   rw[hashByValue_scannable 8 rfl]
   refine wpAny_pure ?_
   simp only[plainKind,↓reduceIte]
   exact wpAny_mono (tail t1 x1 (fun c s1 Q' q=>by cases c<;>first|exact wpAny_pure q|exact wpAny_rule q)) last fun _ _ z=>z
  ·refine wpAny_bind (wpAny_pure ?_)
   simp only[↓reduceIte]
   exact wpAny_mono (tail t1 x1 (fun c s1 Q' q=>by cases c<;>first|exact wpAny_pure q|exact wpAny_rule q)) last fun _ _ z=>z
end
end L2
namespace L2
open PySem PySem.Spec PyProof.Rows
section
variable{P:Program}{w:World}{A:Around}{E:Value->Shared->Prop}{s:Shared}
abbrev gC(b:Bool):Obj:=cD #[] 0 (.fresh 0 0 b)
theorem MF(h:Heap)(b:Bool):jK b (h.push (gC b)) h.objs.size []:=
 ⟨#[],0,_,Heap.get?_push_size _ rfl,Tab.fresh _ _ _,rfl,(fun e he=>by cases he),rfl,List.nodup_nil,by decide⟩
theorem QZ(x:Value){Q:Value->Shared->Prop} (h:Q (.ref s.heap.objs.size) { s with heap:=s.heap.push (gC (!w.params.followText "set-order")) }) :
  codeAny (model P w) A (.call (.builtin "set.__new__") ⟨[.type "set",x],[]⟩) (wants Q E) s:=by
 refine codeAny_of_tree (show wpAny _ A.in1 (do checkBuiltinCall "set.__new__" ⟨[.type "set",x],[]⟩;again (.builtin "set.__new__" ⟨[.type "set",x],[]⟩)) _ _ s from ?_)
 refine wpAny_bind (wpAny_of_eq (PySem.F.newCall_set_1 x) (wpAny_pure ⟨plainId_quiet PySem.F.plain_set_new _,codeAny_builtin PySem.F.entry_set_new ?_⟩))
 rw[Around.under_plainId PySem.F.plain_set_new _];unfold Builtin.«set.__new__» Builtin.Frozenset.newClass
 have sub:=sub_set_self;obtain⟨hp,g,d,tk,os⟩:=s;dsimp only
 wp_walk
 refine wpAny_askSetting (wpAny_pure ?_);dsimp only;simp only[newObj]
 exact wpAny_bind (wpAny_alloc (wpAny_pure (wpAny_pure h)))
theorem KC{R:Result->Shared->Prop}{b:Bool}{I:Addr}{fp wr:List Addr}{n:Nat}{V:Nat->Value->Prop}{St:Nat->Heap->Prop}(W:Walks P w A.in1 I fp wr n V St)(S:Addr)(hS:S∉fp)(val:Nat->Int)(hv:∀ i v,V i v->∃ t,v=.int (val i) t)(hn:n<3000) :
  ∀(k i:Nat)(s:Shared)(ds:List Int),n-i=k->i<=n->St i s.heap->jK b s.heap S ds->ds.length<=i->(∀ m,m∈ds↔∃ j,j<i/\val j=m) ->
   (∀ h' tk ds',jK b h' S ds'->ds'.length<=n->(∀ m,m∈ds'↔∃ j,j<n/\val j=m)->(∀ c o,c∉wr->c≠S->s.heap.get? c=some o->h'.get? c=some o)->R (.ok (.ret .none)) { s with heap:=h',toks:=tk }) ->
   codeAny (model P w) A (.builtin "set.update.loop" ⟨[.ref S,.ref I],[]⟩) R s:=by
 have nw:S∉wr:=fun z=>hS (W.sub _ z)
 intro k
 induction k with
 |zero=>
  intro i s ds hk hi st sa hl hm hR
  have e:i=n:=by lia
  subst e
  refine codeAny_builtin PyProof.Rows.F.entry_set_update_loop ?_;rw[Around.under_plainId PyProof.Rows.F.plain_set_update_loop _]
  refine(show wpAny _ A.in1 (pyNext (.ref I) >>= _) _ _ s from wpAny_bind (W.done s _ _ st fun h' tk keep=>?_))
  exact wpAny_pure (hR h' tk ds (sa.kept fun o q=>keep S o nw q) hl hm fun c o hc _ q=>keep c o hc q)
 |succ k ih=>
  intro i s ds hk hi st sa hl hm hR
  have lt:i<n:=by lia
  refine codeAny_builtin PyProof.Rows.F.entry_set_update_loop ?_;rw[Around.under_plainId PyProof.Rows.F.plain_set_update_loop _]
  refine(show wpAny _ A.in1 (pyNext (.ref I) >>= _) _ _ s from wpAny_bind (W.item i s _ _ lt st fun v h' tk hP st' keep=>?_))
  obtain⟨t,rfl⟩:=hv i v hP
  have sa':jK b h' S ds:=sa.kept fun o q=>keep S o nw q
  refine(show wpAny _ A.in1 (holding [Value.int (val i) t] (setAdd S (.int (val i) t)) >>= _) _ _ _ from wpAny_bind (wpAny_holding ?_))
  unfold setAdd
  refine wpAny_holding (wpAny_bind ((intKind P w).pyHash (k:=val i) (by simp[intKind,Value.isInt]) ?_))
  refine Oa (s:={ s with heap:=h',toks:=tk+1 }) sa' (by lia) fun h2 ds2 r sb s2 m2 l2=>?_
  refine wpAny_pure ⟨plainId_quiet PyProof.Rows.F.plain_set_update_loop _,ih (i+1) _ ds2 (by lia) lt (W.frame _ _ _ st' fun c hc o q=>?_) s2 (by lia) (fun m=>?_) fun h3 tk3 ds3 s3 l3 m3 k3=>?_⟩
  ·rw[sb.2 c (fun z:c=S=>hS (by rw[<- z];exact hc))];exact q
  ·rw[m2 m,hm m]
   constructor
   ·rintro(⟨j,hj,q⟩|q)
    ·exact⟨j,by lia,q⟩
    ·exact⟨i,by lia,q.symm⟩
   ·rintro⟨j,hj,q⟩
    by_cases z:j=i
    ·subst z;exact .inr q.symm
    ·exact .inl ⟨j,by lia,q⟩
  ·refine hR h3 tk3 ds3 s3 l3 m3 fun c o hc hn q=>k3 c o hc hn ?_
   rw[sb.2 c hn];exact keep c o hc q
set_option maxHeartbeats 3200000 in
theorem Hq{l:Addr}{items:Array Value}{ns:List Int}{Q:Value->Shared->Prop}(hh:A.handled=none)(hl:s.heap.IsList l items)(hi:IntsAre items.toList ns)(hb:items.size<3000)
  (h:∀ h' tk ds,jK (!w.params.followText "set-order") h' s.heap.objs.size ds->(∀ m,m∈ds↔m∈ns)->ds.length<=ns.length->(∀ c o,s.heap.get? c=some o->h'.get? c=some o)->Q (.ref s.heap.objs.size) { s with heap:=h',toks:=tk }) :
  wpAny (model P w) A (call (.type "set") [.ref l]) Q E s:=by
 generalize hbb:(!w.params.followText "set-order")=b at h
 have tc:=PySem.F.called_set
 obtain⟨c,tl,hmro⟩:=tc.mro
 have hmade:=tc.made;have hsub:=tc.sub;have h1:=tc.notType;have h2:=tc.canCreate;have hct:=PySem.F.typeCall_set_1 (.ref l)
 refine wpAny_call (codeAny_of_tree (show wpAny _ _ (callAny (.type "set") _) _ _ _ from wpAny_pure ⟨Code.quiet_builtin _ (by decide +kernel),codeAny_builtin PySem.F.entry_type_call ?_⟩))
 rw[Around.under_plain (weight_type_call_type "set" [.ref l] []) rfl]
 repeat (any_goals (first|assumption|wp_step))
 refine codeAny_mono (QZ (.ref l) (E:=E) (Q:=fun obj s1=>obj=.ref s.heap.objs.size/\s1={ s with heap:=s.heap.push (gC b) }) (by subst hbb;exact⟨rfl,rfl⟩)) fun r s1 hr=>?_
 cases r with
 |error e=>exact hr
 |ok fl=>
  cases fl with
  |ret obj=>
   obtain⟨rfl,rfl⟩:=hr
   have at0:(s.heap.push (gC b)).get? s.heap.objs.size=some (gC b):=Heap.get?_push_size _ rfl
   have ty:Shared.TypeIs { s with heap:=s.heap.push (gC b) } (.ref s.heap.objs.size) "set":=⟨_,at0,rfl⟩
   have hli:=tc.init.lookup;have hbi:=tc.init.bind (.ref s.heap.objs.size)
   repeat (any_goals (first|assumption|wp_step))
   refine codeAny_mono (codeAny_call_builtin (R:=wants (fun r s2=>r=.none/\∃ h' tk ds,s2={ s with heap:=h',toks:=tk }/\jK b h' s.heap.objs.size ds/\(∀ m,m∈ds↔m∈ns)/\ds.length<=ns.length/\∀ c o,s.heap.get? c=some o->h'.get? c=some o) E) tc.init.plain PySem.F.entry_set_init (check_set_init_1 ty ?_)) fun r2 s2 hr2=>?_
   ·obtain⟨ol,hol,hcl,nl,hdl⟩:=hl
    obtain⟨c1,c2,c3,c4⟩:=ol
    simp only at hcl hdl
    subst hcl hdl
    have hlS:l<s.heap.objs.size:=Heap.lt_size hol
    have hol':(s.heap.push (gC b)).get? l=some { cls:=.type "list",dict:=c2,data:=.seq items nl,slots:=c4 }:=Heap.get?_push_of_some _ hol
    have l1:(s.heap.push (gC b)).IsList l items:=⟨_,hol',rfl,nl,rfl⟩
    have g1:=PySem.F.sub_list_set;have g2:=PySem.F.sub_list_frozenset
    have g3:(Value.type "list" == Value.type "dict")=false:=by decide
    unfold Builtin.«set.__init__» noKeywords Builtin.Frozenset.updateFrom
    generalize hPI:pyIter=PI
    wp_walk
    subst hPI
    refine wpAny_pyIter_list l1 (wpAny_bind (wpAny_runValue ?_))
    have zp:(s.heap.push (gC b)).objs.size=s.heap.objs.size+1:=Heap.size_push _ _
    have ne:l≠(s.heap.push (gC b)).objs.size:=by rw[zp];exact Nat.ne_of_lt (Nat.lt_succ_of_lt hlS)
    have nS:s.heap.objs.size∉[(s.heap.push (gC b)).objs.size,l]:=by
     rw[zp];simp only[List.mem_cons,List.not_mem_nil,or_false,not_or];exact⟨Nat.ne_of_lt (Nat.lt_succ_self _),Nat.ne_of_gt hlS⟩
    have val:∀(i:Nat)(v:Value),items[i]?=some v->∃ t,v=.int (ns.getD i 0) t:=fun i v q=>IntsAre.int_at hi i v (by rw[Array.getElem?_toList];exact q)
    have ln:items.size=ns.length:=by rw[<- Array.length_toList];exact IntsAre.length hi
    refine KC (b:=b) (Walks.list (show A.in1.in1.in1.handled=none by simp[hh]) _ l ne items) s.heap.objs.size nS (fun i=>ns.getD i 0) val hb (items.size-0) 0 _ [] (by lia) (Nat.zero_le _) ⟨⟨_,Heap.get?_push_size _ rfl,rfl,rfl⟩,l1.push _⟩
     ((MF s.heap b).kept fun o q=>Heap.get?_push_of_some _ q) (Nat.le_refl _) (fun m=>⟨(fun z=>by cases z),fun⟨j,hj,_⟩=>absurd hj (Nat.not_lt_zero _)⟩) fun h' tk ds' sa ld md keep=>?_
    refine wpAny_pure (wpAny_pure ⟨rfl,h',tk,ds',rfl,sa,fun m=>?_,by lia,fun c o q=>?_⟩)
    ·rw[md m,ln]
     constructor
     ·rintro⟨j,hj,e⟩
      rw[<- e,List.getD_eq_getElem?_getD,List.getElem?_eq_getElem hj];exact List.getElem_mem hj
     ·intro hm
      obtain⟨j,hj,e⟩:=List.getElem_of_mem hm
      exact⟨j,hj,by rw[List.getD_eq_getElem?_getD,List.getElem?_eq_getElem hj];exact e⟩
    ·have lc:=Heap.lt_size q
     exact keep c o (by rw[zp];simp only[List.mem_singleton];exact Nat.ne_of_lt (Nat.lt_succ_of_lt lc)) (Nat.ne_of_lt lc) (Heap.get?_push_of_some _ (Heap.get?_push_of_some _ q))
   ·cases r2 with
    |error e=>exact hr2
    |ok fl2=>
     cases fl2 with
     |ret r=>
      obtain⟨rfl,h',tk,ds,rfl,sa,md,ld,keep⟩:=hr2
      repeat (any_goals (first|assumption|wp_step))
      exact h _ _ _ sa md ld keep
     |_=>exact hr2.elim
  |_=>exact hr.elim
end
end L2
namespace L2
open PySem PySem.Spec PyProof.Rows PySem.SeqAt PySem.MeetsSeq PySem.MeetsSeq2 PySem.MeetsSeq3
open PySem.AutoSeq1 (wpAny_loadPart')
namespace SF
theorem xT:Manifest.owners.lookup (String.ofList ['r','o','t','a','r','e','t','i','_','t','e','s'].reverse)=some Manifest.sig_set_iterator:=by kernel_rfl
theorem dj:Slot "set_iterator" "__next__" "set_iterator.__next__":=.of (owner:="set_iterator") (n:="__next__") (by rw[typeLookup_type,builtinLookup_eq_fast];kernel_rfl) (by decide +kernel) (by decide +kernel) (by decide +kernel) (by first|exact .inl (by decide +kernel)|exact .inr (by decide +kernel)) (by rw[isSubtype_type];kernel_rfl)
theorem nZ:Slot "set_iterator" "__iter__" "set_iterator.__iter__":=.of (owner:="set_iterator") (n:="__iter__") (by rw[typeLookup_type,builtinLookup_eq_fast];kernel_rfl) (by decide +kernel) (by decide +kernel) (by decide +kernel) (by first|exact .inl (by decide +kernel)|exact .inr (by decide +kernel)) (by rw[isSubtype_type];kernel_rfl)
theorem lU:entryFor table "set_iterator.__next__" = some Builtin.«set_iterator.__next__»:=entryFor_of_tree (by kernel_rfl)
theorem nU(a:Value):argsOk "set_iterator.__next__" ⟨[a],[]⟩:=by
 unfold argsOk;rw[signature?_of (id:="set_iterator.__next__") (n:=['_','_','t','x','e','n','_','_']) (o:=['r','o','t','a','r','e','t','i','_','t','e','s']) (by kernel_rfl) xT];kernel_rfl
theorem uR:entryFor table "set.__iter__" = some Builtin.«frozenset.__iter__»:=entryFor_alias (id':="frozenset.__iter__") (by kernel_rfl) rfl (by decide +kernel) (by kernel_rfl)
theorem uT:entryFor table "set_iterator.__iter__" = some Builtin.«dict_keyiterator.__iter__»:=entryFor_alias (id':="dict_keyiterator.__iter__") (by kernel_rfl) rfl (by decide +kernel) (by kernel_rfl)
theorem wg(a:Value):argsOk "set_iterator.__iter__" ⟨[a],[]⟩:=by
 unfold argsOk;rw[signature?_of (id:="set_iterator.__iter__") (n:=['_','_','r','e','t','i','_','_']) (o:=['r','o','t','a','r','e','t','i','_','t','e','s']) (by kernel_rfl) xT];kernel_rfl
end SF
section
variable{P:Program}{w:World}{A:Around}{E:Value->Shared->Prop}{s:Shared}
abbrev jc(first:Value)(i:Nat)(a:Addr)(n ep:Nat)(z:Array (Option Value)):Obj:={ cls:=.type "set_iterator",dict:=none,data:=.fields #[first,.int i 0,.ref a,.int n 0,.int ep 0],slots:=z }
theorem uX{t:SetTable}{n:Nat}(h:t.fits n=true):(t.place.size != n||decide (t.fill>t.mask))=false:=by
 simp only[SetTable.fits,Bool.and_eq_true,beq_iff_eq,decide_eq_true_eq] at h
 obtain⟨h1,h2⟩:=h
 rw[h1,decide_eq_false (Nat.not_lt.mpr h2)];simp
theorem zA{h:Heap}{I:Addr}{o o2:Obj}{f:Obj->Obj}(e:h.get? I=some o)(q:f o=o2)(z:o2.isFreed=false:=by rfl):(h.update I f).get? I=some o2:=by
 subst q
 exact Heap.get?_update_self f e z
theorem Br{I a:Addr}{slot i n ep nxt:Nat}{es:Array (Int×Value)}{t:SetTable}{z1:Array (Option Value)}{v:Value}{Q:Value->Shared->Prop}(hn:n=es.size)(hf:t.fits es.size=true)
  (e1:s.heap.get? I=some (jc (.int slot 0) i a n ep z1)) (e2:s.heap.get? a=some (cD es ep t))
  (hsn:∀(Q':Option (Value×Nat)->Shared->Prop)(E':Value->Shared->Prop),Q' (some (v,nxt)) s->wpAny (model P w) A (setNext a slot i ep) Q' E' s)
  (hQ:∀ h',h'.get? I=some (jc (.int nxt 0) (i+1) a n ep z1)->(∀ b o,b≠I->s.heap.get? b=some o->h'.get? b=some o)->Q v { s with heap:=h' }) :
  wpAny (model P w) A (Builtin.«set_iterator.__next__» ⟨[.ref I],[]⟩) (fun fin s'=>∃ r,fin=.done (.ret r)/\Q r s') E s:=by
 obtain⟨hp,g,dr,tk,os⟩:=s
 have hc:=uX hf
 have hz:(((es.size:Nat):Int) != (n:Int))=false:=by rw[hn];simp
 unfold Builtin.«set_iterator.__next__»
 generalize hSN:@setNext=SN at hsn ⊢
 wp_walk using wpAny_loadPart' e1
 simp only[Int.toNat_natCast]
 refine hsn _ _ ?_
 dsimp only
 wp_walk using wpAny_loadPart' e1
 refine⟨v,rfl,hQ _ ?_ fun b o hb q=>?_⟩
 ·exact zA (zA (o2:=jc (.int nxt 0) i a n ep z1) e1 rfl) rfl
 ·rw[Heap.get?_update_ne _ _ _ _ hb,Heap.get?_update_ne _ _ _ _ hb];exact q
theorem GJ{I a:Addr}{slot i n ep:Nat}{es:Array (Int×Value)}{t:SetTable}{z1:Array (Option Value)}(hh:A.handled=none)(hn:n=es.size)(hf:t.fits es.size=true)
  (e1:s.heap.get? I=some (jc (.int slot 0) i a n ep z1)) (e2:s.heap.get? a=some (cD es ep t))
  (hsn:∀(Q':Option (Value×Nat)->Shared->Prop)(E':Value->Shared->Prop),Q' none s->wpAny (model P w) A (setNext a slot i ep) Q' E' s) {C:Fin->Shared->Prop}
  (hQ:∀(h':Heap)(e:Addr),(∃ o,h'.get? e=some o/\o.cls=.type "StopIteration")->(∀ b o,b≠I->s.heap.get? b=some o->h'.get? b=some o)->E (.ref e) { s with heap:=h' }) :
  wpAny (model P w) A (Builtin.«set_iterator.__next__» ⟨[.ref I],[]⟩) C E s:=by
 obtain⟨hp,g,dr,tk,os⟩:=s
 have hc:=uX hf
 have hz:(((es.size:Nat):Int) != (n:Int))=false:=by rw[hn];simp
 unfold Builtin.«set_iterator.__next__»
 generalize hSN:@setNext=SN at hsn ⊢
 wp_walk using wpAny_loadPart' e1
 simp only[Int.toNat_natCast]
 refine hsn _ _ ?_
 dsimp only
 wp_walk using wpAny_loadPart' e1
 unfold raiseNew
 have hh':A.handled=none:=hh
 refine wpAny_bind (wpAny_handled ?_);rw[hh']
 refine wpAny_bind (wpAny_pure (wpAny_throw (hQ _ _ ⟨_,Heap.get?_push_size _ rfl,rfl⟩ fun b o hb q=>Heap.get?_push_of_some _ (Heap.get?_push_of_some _ ?_))))
 rw[Heap.get?_update_ne _ _ _ _ hb];exact q
theorem K5{I a T:Addr}{i n ep pl:Nat}{es:Array (Int×Value)}{t:SetTable}{z1:Array (Option Value)}{v:Value}{ps:List Nat}{Q:Value->Shared->Prop}(hn:n=es.size)(hf:t.fits es.size=true)
  (e1:s.heap.get? I=some (jc (.ref T) i a n ep z1)) (e2:s.heap.get? a=some (cD es ep t)) (e3:s.heap.get? T=some { cls:=.type "tuple",data:=.seq (ps.map fun(k:Nat)=>rawInt k).toArray }) (hp:ps[i]?=some pl) (hv:es[pl]?.map (·.2)=some v)
  (hQ:∀ h',h'.get? I=some (jc (.ref T) (i+1) a n ep z1)->(∀ b o,b≠I->s.heap.get? b=some o->h'.get? b=some o)->Q v { s with heap:=h' }) :
  wpAny (model P w) A (Builtin.«set_iterator.__next__» ⟨[.ref I],[]⟩) (fun fin s'=>∃ r,fin=.done (.ret r)/\Q r s') E s:=by
 obtain⟨hp',g,dr,tk,os⟩:=s
 have hc:=uX hf
 have hz:(((es.size:Nat):Int) != (n:Int))=false:=by rw[hn];simp
 obtain⟨⟨hh,x⟩,ex,ev⟩:=Option.map_eq_some_iff.mp hv
 have ev:x=v:=ev
 subst ev
 have ep':((ps.map fun(k:Nat)=>rawInt k).toArray)[((i:Nat):Int).toNat]?=some (.int pl 0):=by
  rw[Int.toNat_natCast,List.getElem?_toArray,List.getElem?_map,hp];rfl
 unfold Builtin.«set_iterator.__next__»
 generalize hSN:@setNextDrawn=SN
 wp_walk using wpAny_loadPart' e1,wpAny_loadPart' e3
 rw[ep']
 dsimp only
 subst hSN
 unfold setNextDrawn
 simp only[Int.toNat_natCast]
 refine wpAny_bind (wpAny_bind (wpAny_setState_of (o:=cD es ep t) e2 rfl hf ?_))
 dsimp only
 rw[bne_self_eq_false,if_neg (by decide),ex]
 dsimp only
 refine wpAny_pure ?_
 wp_walk using wpAny_loadPart' e1
 refine⟨x,rfl,hQ _ ?_ fun b o hb q=>?_⟩
 ·exact zA e1 rfl
 ·rw[Heap.get?_update_ne _ _ _ _ hb];exact q
theorem Oq{I a T:Addr}{i n ep:Nat}{es:Array (Int×Value)}{t:SetTable}{z1:Array (Option Value)}{ps:List Nat}{C:Fin->Shared->Prop}(hh:A.handled=none)(hn:n=es.size)(hf:t.fits es.size=true)
  (e1:s.heap.get? I=some (jc (.ref T) i a n ep z1)) (e2:s.heap.get? a=some (cD es ep t)) (e3:s.heap.get? T=some { cls:=.type "tuple",data:=.seq (ps.map fun(k:Nat)=>rawInt k).toArray }) (hp:ps[i]?=none)
  (hQ:∀(h':Heap)(e:Addr),(∃ o,h'.get? e=some o/\o.cls=.type "StopIteration")->(∀ b o,b≠I->s.heap.get? b=some o->h'.get? b=some o)->E (.ref e) { s with heap:=h' }) :
  wpAny (model P w) A (Builtin.«set_iterator.__next__» ⟨[.ref I],[]⟩) C E s:=by
 obtain⟨hp',g,dr,tk,os⟩:=s
 have hc:=uX hf
 have hz:(((es.size:Nat):Int) != (n:Int))=false:=by rw[hn];simp
 have ep':((ps.map fun(k:Nat)=>rawInt k).toArray)[((i:Nat):Int).toNat]?=none:=by
  rw[Int.toNat_natCast,List.getElem?_toArray,List.getElem?_map,hp];rfl
 unfold Builtin.«set_iterator.__next__»
 generalize hSN:@setNextDrawn=SN
 wp_walk using wpAny_loadPart' e1,wpAny_loadPart' e3
 rw[ep']
 dsimp only
 wp_walk using wpAny_loadPart' e1
 unfold raiseNew
 have hh':A.handled=none:=hh
 refine wpAny_bind (wpAny_handled ?_);rw[hh']
 refine wpAny_bind (wpAny_pure (wpAny_throw (hQ _ _ ⟨_,Heap.get?_push_size _ rfl,rfl⟩ fun b o hb q=>Heap.get?_push_of_some _ (Heap.get?_push_of_some _ ?_))))
 rw[Heap.get?_update_ne _ _ _ _ hb,Heap.get?_update_ne _ _ _ _ hb];exact q
theorem xQ{a:Addr}{slot i ep:Nat}{es:Array (Int×Value)}{t:SetTable}{Q:Option (Value×Nat)->Shared->Prop} (hb:w.params.followText "set-order" = true) (e2:s.heap.get? a=some (cD es ep t)) (hf:t.fits es.size=true)
  (h:Q ((pickOrder (w.params.setOrder a ep) es)[i]?.map fun e=>(e.2,slot)) s):wpAny (model P w) A (setNext a slot i ep) Q E s:=by
 have hb':(model P w).w.params.followText "set-order" = true:=hb
 unfold setNext setsByText
 refine wpAny_bind (wpAny_setState_of (o:=cD es ep t) e2 rfl hf ?_)
 dsimp only
 refine wpAny_bind (wpAny_bind (wpAny_askSetting (wpAny_pure ?_)))
 dsimp only
 rw[if_pos hb',bne_self_eq_false,if_neg (by decide)]
 unfold setWalk setsByText
 refine wpAny_bind (wpAny_bind (wpAny_setState_of (o:=cD es ep t) e2 rfl hf ?_))
 dsimp only
 refine wpAny_bind (wpAny_bind (wpAny_askSetting (wpAny_pure ?_)))
 dsimp only
 rw[if_pos hb']
 exact wpAny_bind (wpAny_askSetting (wpAny_pure (wpAny_pure h)))
def Dz(es:Array (Int×Value))(t:SetTable)(slot:Nat):Option (Value×Nat):=match es[SetTable.below t.place slot]?,t.place[SetTable.below t.place slot]? with
 |some (_,x),some j=>some (x,j+1)
 |_,_=>none
theorem vp{a:Addr}{slot i ep:Nat}{es:Array (Int×Value)}{t:SetTable}{Q:Option (Value×Nat)->Shared->Prop} (hb:w.params.followText "set-order" = false) (e2:s.heap.get? a=some (cD es ep t)) (hf:t.fits es.size=true) (hd:(!t.plain&&decide (es.size>1))=false) (hl:t.led=true)
  (h:Q (Dz es t slot) s):wpAny (model P w) A (setNext a slot i ep) Q E s:=by
 unfold setNext setsByText
 refine wpAny_bind (wpAny_setState_of (o:=cD es ep t) e2 rfl hf ?_)
 dsimp only
 refine wpAny_bind (wpAny_bind (wpAny_askSetting (wpAny_pure ?_)))
 dsimp only
 have hb':¬(model P w).w.params.followText "set-order" = true:=by
  intro z
  rw[show(model P w).w.params.followText "set-order" = w.params.followText "set-order" from rfl,hb] at z;cases z
 rw[if_neg hb']
 refine wpAny_ite_split (fun z=>?_) (fun _=>?_)
 ·have z':(!t.plain&&decide (es.size>1))=true:=z
  rw[hd] at z';cases z'
 refine wpAny_bind (show wpAny _ _ (if(!t.led&&!es.isEmpty)=true then unsupported "set:maker-not-led" else pure ()) _ _ _ from ?_)
 rw[hl,if_neg (by simp)]
 exact wpAny_pure (wpAny_pure h)
end
end L2
namespace L2
open PySem PySem.Spec PyProof.Rows PySem.SeqAt PySem.MeetsSeq PySem.MeetsSeq2 PySem.MeetsSeq3
open PySem.AutoSeq1 (wpAny_loadPart')
theorem oF{α:Type}:∀ {xs:List α} {k:Nat} (h:k<xs.length),(xs[k]::xs.eraseIdx k).Perm xs
 |x::xs,0,h=>List.Perm.refl _
 |x::xs,k+1,h=>by
  have:=oF (xs:=xs) (k:=k) (by simpa using h)
  rw[List.eraseIdx_cons_succ]
  exact(List.Perm.swap _ _ _).trans (this.cons x)
theorem Gs{α:Type}(next:Nat->Nat):∀(n k:Nat)(xs:List α)(out:Array α),xs.length=n->((pickOrder.go next n k xs out).toList).Perm (out.toList++xs)
 |0,k,xs,out,h=>by
  have:xs=[]:=List.eq_nil_of_length_eq_zero h
  subst this
  unfold pickOrder.go
  rw[List.append_nil]
 |n+1,k,xs,out,h=>by
  unfold pickOrder.go
  have hm:next k%xs.length<xs.length:=Nat.mod_lt _ (by lia)
  rw[List.getElem?_eq_getElem hm]
  dsimp only
  have p:=Gs next n (k+1) (xs.eraseIdx (next k%xs.length)) (out.push xs[next k%xs.length]) (by rw[List.length_eraseIdx_of_lt hm];lia)
  refine p.trans ?_
  rw[Array.toList_push,List.append_assoc]
  refine List.Perm.append_left _ ?_
  exact oF hm
theorem Jb{α:Type}(next:Nat->Nat)(xs:Array α):(pickOrder next xs).toList.Perm xs.toList:=by
 have:=Gs next xs.size 0 xs.toList #[] (Array.length_toList)
 simpa [pickOrder] using this
section
variable{P:Program}{w:World}{A:Around}{E:Value->Shared->Prop}
theorem Hs{s:Shared}{src:Source}{n:Nat}{Q:Nat->Shared->Prop}(hn:n≠0)(h:∀ k d',k<n->Q k { s with drawn:=d' }):wpAny (model P w) A (choose src n) Q E s:=fun Γ p hΓ=>by
 unfold choose
 rw[Sem.wp_choose]
 exact⟨hn,by rw[Sem.wp_pure];exact h _ _ (Nat.mod_lt _ (Nat.pos_of_ne_zero hn))⟩
theorem Fy{α:Type}:∀(n:Nat)(xs:List α){s:Shared}{Q:List α->Shared->Prop},xs.length=n->(∀ ys d',ys.Perm xs->Q ys { s with drawn:=d' })->wpAny (model P w) A (drawOrder n xs) Q E s
 |0,xs,s,Q,hl,h=>by
  have:xs=[]:=List.eq_nil_of_length_eq_zero hl
  subst this
  unfold drawOrder
  exact wpAny_pure (h [] s.drawn (List.Perm.refl _))
 |n+1,[],s,Q,hl,h=>by cases hl
 |n+1,x::xs,s,Q,hl,h=>by
  unfold drawOrder
  refine wpAny_bind (Hs (by simp) fun k d' hk=>?_)
  rw[List.getElem?_eq_getElem hk]
  dsimp only
  refine wpAny_bind (Fy n _ (by rw[List.length_eraseIdx_of_lt hk];rw[List.length_cons] at hl ⊢;lia) fun ys d2 p=>wpAny_pure (h _ d2 ?_))
  exact(p.cons _).trans (oF hk)
end
section
variable{P:Program}{w:World}{A:Around}{E:Value->Shared->Prop}{s:Shared}
inductive kZ(w:World)(I a:Addr)(T:Option Addr)(es:Array (Int×Value))(ep:Nat)(t:SetTable)(L:List (Int×Value))(i:Nat)(h:Heap):Prop
 |text (slot:Nat) (z:Array (Option Value)) (hb:w.params.followText "set-order" = true) (hT:T=none) (hL:L=(pickOrder (w.params.setOrder a ep) es).toList) (e1:h.get? I=some (jc (.int slot 0) i a es.size ep z)) (e2:h.get? a=some (cD es ep t))
 |place (slot:Nat) (z:Array (Option Value)) (hb:w.params.followText "set-order" = false) (hT:T=none) (hL:L=es.toList) (hd:(!t.plain&&decide (es.size>1))=false) (hs:SetTable.below t.place slot=i) (e1:h.get? I=some (jc (.int slot 0) i a es.size ep z)) (e2:h.get? a=some (cD es ep t))
 |drawn (tp:Addr) (ps:List Nat) (z:Array (Option Value)) (hT:T=some tp) (hp:ps.length=es.size) (hL:∀(j pl:Nat),ps[j]?=some pl->L[j]?=es[pl]?) (e1:h.get? I=some (jc (.ref tp) i a es.size ep z)) (e2:h.get? a=some (cD es ep t)) (e3:h.get? tp=some { cls:=.type "tuple",data:=.seq (ps.map fun(k:Nat)=>rawInt k).toArray })
def fpS(I a:Addr):Option Addr->List Addr
 |none=>[I,a]
 |some tp=>[I,a,tp]
theorem kZ.ty{I a:Addr}{T:Option Addr}{es:Array (Int×Value)}{ep i:Nat}{t:SetTable}{L:List (Int×Value)}(k:kZ w I a T es ep t L i s.heap):s.TypeIs (.ref I) "set_iterator":=by
 cases k with
 |text _ _ _ _ _ e1 _=>exact⟨_,e1,rfl⟩
 |place _ _ _ _ _ _ _ e1 _=>exact⟨_,e1,rfl⟩
 |drawn _ _ _ _ _ _ e1 _ _=>exact⟨_,e1,rfl⟩
theorem kZ.frame{I a:Addr}{T:Option Addr}{es:Array (Int×Value)}{ep i:Nat}{t:SetTable}{L:List (Int×Value)}{h h':Heap}(k:kZ w I a T es ep t L i h)(hk:∀ b∈fpS I a T,∀ o,h.get? b=some o->h'.get? b=some o):kZ w I a T es ep t L i h':=by
 cases k with
 |text slot z hb hT hL e1 e2=>subst hT;exact .text slot z hb rfl hL (hk I (by simp[fpS]) _ e1) (hk a (by simp[fpS]) _ e2)
 |place slot z hb hT hL hd hs e1 e2=>subst hT;exact .place slot z hb rfl hL hd hs (hk I (by simp[fpS]) _ e1) (hk a (by simp[fpS]) _ e2)
 |drawn tp ps z hT hp hL e1 e2 e3=>subst hT;exact .drawn tp ps z rfl hp hL (hk I (by simp[fpS]) _ e1) (hk a (by simp[fpS]) _ e2) (hk tp (by simp[fpS]) _ e3)
structure zH(b:Bool)(I a:Addr)(T:Option Addr)(es:Array (Int×Value))(t:SetTable)(L:List (Int×Value)):Prop where
 fit:t.fits es.size=true
 tab:Tab b t
 perm:L.Perm es.toList
 ne:a≠I
 nt:∀ tp,T=some tp->tp≠I
theorem zL{t:SetTable}{b:Bool}(x:Tab b t){i slot:Nat}(hs:SetTable.below t.place slot=i)(hi:i<t.place.size):SetTable.below t.place (t.place[i]+1)=i+1:=by
 have c:=qH x.ris (t.place[i]+1)
 refine c.uniq ⟨hi,fun k hk hl=>?_,fun k hk hl=>?_⟩
 ·exact Nat.lt_succ_of_le (x.ris.le (Nat.le_of_lt_succ hl) hi)
 ·exact x.ris.lt hl hk
theorem Nb{I a:Addr}{T:Option Addr}{es:Array (Int×Value)}{ep i:Nat}{t:SetTable}{L:List (Int×Value)}{Q:Option Value->Shared->Prop} (ok:zH (!w.params.followText "set-order") I a T es t L) (k:kZ w I a T es ep t L i s.heap) (hi:i<L.length)
  (hQ:∀ h',kZ w I a T es ep t L (i+1) h'->(∀ b o,b≠I->s.heap.get? b=some o->h'.get? b=some o)->Q (some L[i].2) { s with heap:=h' }):wpAny (model P w) A (pyNext (.ref I)) Q E s:=by
 have len:L.length=es.size:=by rw[ok.perm.length_eq,Array.length_toList]
 have ty:=k.ty
 unfold pyNext
 refine wpAny_bind (wpAny_attempt (wpAny_callSpecial?_slot (name:=Str.ofString "__next__") ty SF.dj (wpAny_call_entry SF.dj ty SF.lU ?_ (SF.nU _))))
 cases k with
 |text slot z hb hT hL e1 e2=>
  refine Br (nxt:=slot) (v:=L[i].2) rfl ok.fit e1 e2 (fun Q' E' q=>xQ hb e2 ok.fit ?_) fun h' g1 g2=>wpAny_pure (hQ h' (.text slot z hb hT hL g1 (g2 a _ ok.ne e2)) g2)
  have:(pickOrder (w.params.setOrder a ep) es)[i]?=some L[i]:=by
   rw[<- Array.getElem?_toList,<- hL];exact List.getElem?_eq_getElem hi
  rw[this];exact q
 |place slot z hb hT hL hd hs e1 e2=>
  subst hL
  have f:=ok.fit
  simp only[SetTable.fits,Bool.and_eq_true,beq_iff_eq,decide_eq_true_eq] at f
  have hp:i<t.place.size:=by rw[f.1];omega
  refine Br (nxt:=t.place[i]+1) (v:=es.toList[i].2) rfl ok.fit e1 e2 (fun Q' E' q=>vp hb e2 ok.fit hd (by rw[ok.tab.led,hb];rfl) ?_) fun h' g1 g2=>wpAny_pure (hQ h' (.place _ z hb hT rfl hd (zL ok.tab hs hp) g1 (g2 a _ ok.ne e2)) g2)
  unfold Dz
  rw[hs,Array.getElem?_eq_getElem (by omega),Array.getElem?_eq_getElem hp]
  simpa using q
 |drawn tp ps z hT hp hL e1 e2 e3=>
  have hpi:i<ps.length:=by omega
  have hl:=hL i ps[i] (List.getElem?_eq_getElem hpi)
  refine K5 (pl:=ps[i]) (v:=L[i].2) rfl ok.fit e1 e2 e3 (List.getElem?_eq_getElem hpi) ?_ fun h' g1 g2=>wpAny_pure (hQ h' (.drawn tp ps z hT hp hL g1 (g2 a _ ok.ne e2) (g2 tp _ (ok.nt tp hT) e3)) g2)
  rw[<- hl,List.getElem?_eq_getElem hi];rfl
theorem Nf{I a:Addr}{T:Option Addr}{es:Array (Int×Value)}{ep:Nat}{t:SetTable}{L:List (Int×Value)}{Q:Option Value->Shared->Prop}(hh:A.handled=none) (ok:zH (!w.params.followText "set-order") I a T es t L) (k:kZ w I a T es ep t L L.length s.heap)
  (hQ:∀ h',(∀ b o,b≠I->s.heap.get? b=some o->h'.get? b=some o)->Q none { s with heap:=h' }):wpAny (model P w) A (pyNext (.ref I)) Q E s:=by
 have len:L.length=es.size:=by rw[ok.perm.length_eq,Array.length_toList]
 have ty:=k.ty
 unfold pyNext
 refine wpAny_bind (wpAny_attempt (wpAny_callSpecial?_slot (name:=Str.ofString "__next__") ty SF.dj (wpAny_call_entry SF.dj ty SF.lU ?_ (SF.nU _))))
 have fin:∀(h':Heap)(e:Addr),(∃ o,h'.get? e=some o/\o.cls=.type "StopIteration")->(∀ b o,b≠I->s.heap.get? b=some o->h'.get? b=some o)->wpAny (model P w) A (isInstance (.ref e) (.type "StopIteration") >>= fun c=>if c=true then pure none else throw (.ref e)) Q E { s with heap:=h' }:=fun h' e ⟨o,h1,h2⟩ g=>by
  refine wpAny_bind (wpAny_isInstance (T:="StopIteration") (b:=true) ⟨o,h1,h2⟩ isSubtype_stop ?_)
  exact wpAny_pure (hQ h' g)
 cases k with
 |text slot z hb hT hL e1 e2=>
  refine GJ (show A.in1.handled=none from hh) rfl ok.fit e1 e2 (fun Q' E' q=>xQ hb e2 ok.fit ?_) fun h' e ho g=>?_
  rotate_left
  ·exact fin h' e ho g
  have:(pickOrder (w.params.setOrder a ep) es)[L.length]?=none:=by
   rw[<- Array.getElem?_toList,<- hL];exact List.getElem?_eq_none (Nat.le_refl _)
  rw[this];exact q
 |place slot z hb hT hL hd hs e1 e2=>
  refine GJ (show A.in1.handled=none from hh) rfl ok.fit e1 e2 (fun Q' E' q=>vp hb e2 ok.fit hd (by rw[ok.tab.led,hb];rfl) ?_) fun h' e ho g=>?_
  rotate_left
  ·exact fin h' e ho g
  unfold Dz
  rw[hs,Array.getElem?_eq_none (by lia)]
  exact q
 |drawn tp ps z hT hp hL e1 e2 e3=>
  exact Oq (show A.in1.handled=none from hh) rfl ok.fit e1 e2 e3 (List.getElem?_eq_none (by lia)) fun h' e ho g=>fin h' e ho g
theorem Jo{I a:Addr}{T:Option Addr}{es:Array (Int×Value)}{ep:Nat}{t:SetTable}{L:List (Int×Value)}(hh:A.handled=none) (ok:zH (!w.params.followText "set-order") I a T es t L):Walks P w A I (fpS I a T) [I] L.length (fun i v=>∃ h:i<L.length,v=L[i].2) (kZ w I a T es ep t L) where
 sub:=fun b hb=>by rw[List.mem_singleton.mp hb];cases T<;>simp[fpS]
 frame:=fun i h h' st hk=>st.frame hk
 item:=fun i s Q E hi st hQ=>Nb ok st hi fun h' k' keep=>hQ _ h' s.toks ⟨hi,rfl⟩ k' fun b o hb eb=>keep b o (fun z=>hb (by rw[z];exact List.mem_singleton.mpr rfl)) eb
 done:=fun s Q E st hQ=>Nf hh ok st fun h' keep=>hQ h' s.toks fun b o hb eb=>keep b o (fun z=>hb (by rw[z];exact List.mem_singleton.mpr rfl)) eb
 self:=fun i s Q E st hQ=>by
  have ty:=st.ty
  refine wpAny_pyIter_slot ty SF.nZ (wpAny_call_entry SF.nZ ty SF.uT ?_ (SF.wg _))
  exact wpAny_pure ⟨_,rfl,"set_iterator",_,ty,SF.dj.lookup,hQ⟩
theorem MP{a:Addr}{es:Array (Int×Value)}{ep:Nat}{t:SetTable}{ds:List Int}{Q:Value->Shared->Prop}(e:s.heap.get? a=some (cD es ep t)) (x:qw (!w.params.followText "set-order") es t ds)
  (hQ:∀(I:Addr)(T:Option Addr)(L:List (Int×Value))(h':Heap)(d':Drawn),zH (!w.params.followText "set-order") I a T es t L->kZ w I a T es ep t L 0 h'->s.heap.objs.size<=I->(∀ tp,T=some tp->s.heap.objs.size<=tp)->(∀ b o,s.heap.get? b=some o->h'.get? b=some o)->Q (.ref I) { s with heap:=h',drawn:=d' }):wpAny (model P w) A (pyIter (.ref a)) Q E s:=by
 have ty:s.TypeIs (.ref a) "set":=⟨_,e,rfl⟩
 have lta:=Heap.lt_size e
 have hc:=uX x.fit
 refine wpAny_pyIter_slot ty PySem.F.slot_set_iter (wpAny_call_entry PySem.F.slot_set_iter ty SF.uR ?_ (PySem.F.args_set_iter_1 _))
 unfold Builtin.«frozenset.__iter__» Builtin.Frozenset.slot0 Builtin.Frozenset.addrOf Builtin.Frozenset.sizeOf setDrawn setsByText
 generalize hDO:@drawOrder=DO
 obtain⟨hp,g,dr,tk,os⟩:=s
 wp_walk
 subst hDO
 refine wpAny_askSetting (wpAny_pure (wpAny_pure ?_))
 dsimp only
 have ok0:∀(I:Addr)(T:Option Addr)(L:List (Int×Value)),hp.objs.size<=I->(∀ tp,T=some tp->tp≠I)->L.Perm es.toList->zH (!w.params.followText "set-order") I a T es t L:=fun I T L hI hT hL=>⟨x.fit,x.tab,hL,Nat.ne_of_lt (Nat.lt_of_lt_of_le lta hI),hT⟩
 have Rz:∀(L:List (Int×Value)),L.Perm es.toList->(∀ h:Heap,h.get? hp.objs.size=some (jc (.int (0:Nat) 0) 0 a es.size ep #[])->h.get? a=some (cD es ep t)->kZ w hp.objs.size a none es ep t L 0 h) ->
   wpAny (model P w) A.in1 (do
    let first <- pure (rawInt 0)
    let ep <- setEpoch a
    let it <- newFields "set_iterator" [first,rawInt 0,.ref a,rawInt es.size,rawInt ep]
    ret it) (fun fin s'=>∃ v,fin=.done (.ret v)/\∃ T' r,s'.TypeIs v T'/\typeLookup (.type T') (Str.ofString "__next__")=pure (some r)/\Q v s') E { heap:=hp,gens:=g,drawn:=dr,toks:=tk,os:=os }:=fun L hL st=>by
  refine wpAny_bind (wpAny_pure (wpAny_bind (wpAny_setEpoch_of (o:=cD es ep t) e rfl x.fit (wpAny_bind (wpAny_newObj_type (wpAny_pure ⟨_,rfl,"set_iterator",_,⟨_,Heap.get?_push_size _ rfl,rfl⟩,SF.dj.lookup,?_⟩))))))
  exact hQ hp.objs.size none L _ dr (ok0 _ _ _ (Nat.le_refl _) (fun _ z=>by cases z) hL) (st _ (Heap.get?_push_size _ rfl) (Heap.get?_push_of_some _ e)) (Nat.le_refl _) (fun _ z=>by cases z) fun b o q=>Heap.get?_push_of_some _ q
 refine wpAny_ite_split (fun hd=>?_) (fun hd=>?_)
 ·refine wpAny_bind (Fy es.size (List.range es.size) (List.length_range) fun ps d' pp=>?_)
  have lps:ps.length=es.size:=by rw[pp.length_eq,List.length_range]
  have sz2:(ps.map fun(i:Nat)=>rawInt i).length<=sizeLine:=by
   rw[List.length_map,lps,x.len,sizeLine_eq];have:=x.sm;lia
  refine wpAny_bind (wpAny_newTuple ?_ sz2)
  refine wpAny_bind (wpAny_setEpoch_of (o:=cD es ep t) (Heap.get?_push_of_some _ e) rfl x.fit (wpAny_bind (wpAny_newObj_type (wpAny_pure ⟨_,rfl,"set_iterator",_,⟨_,Heap.get?_push_size _ rfl,rfl⟩,SF.dj.lookup,?_⟩))))
  have lt:∀ k∈ps,k<es.size:=fun k hk=>List.mem_range.mp (pp.mem_iff.mp hk)
  have hlp:(ps.map fun k=>es.getD k (0,.none)).Perm es.toList:=by
   refine(pp.map _).trans (List.Perm.of_eq ?_)
   refine List.ext_getElem (by rw[List.length_map,List.length_range,Array.length_toList]) fun k h1 h2=>?_
   rw[Array.length_toList] at h2
   rw[List.getElem_map,List.getElem_range,Array.getElem_toList]
   simp[Array.getD,h2]
  have nsz:hp.objs.size<=(hp.push { cls:=.type "tuple",data:=.seq (ps.map fun(i:Nat)=>rawInt i).toArray }).objs.size:=by rw[Heap.size_push];exact Nat.le_succ _
  have nlt:hp.objs.size<(hp.push { cls:=.type "tuple",data:=.seq (ps.map fun(i:Nat)=>rawInt i).toArray }).objs.size:=by rw[Heap.size_push];exact Nat.lt_succ_self _
  refine hQ _ (some hp.objs.size) (ps.map fun k=>es.getD k (0,.none)) _ d' (ok0 _ _ _ nsz (fun tp z=>by cases z;exact Nat.ne_of_lt nlt) hlp) (.drawn hp.objs.size ps #[] rfl lps (fun j pl q=>?_) (Heap.get?_push_size _ rfl) (Heap.get?_push_of_some _ (Heap.get?_push_of_some _ e)) (Heap.get?_push_of_some _ (Heap.get?_push_size _ rfl))) nsz (fun tp z=>by cases z;exact Nat.le_refl _) fun b o q=>Heap.get?_push_of_some _ (Heap.get?_push_of_some _ q)
  have hpl:=lt pl (List.mem_of_getElem? q)
  rw[List.getElem?_map,q,Array.getElem?_eq_getElem hpl]
  simp[Array.getD,hpl]
 ·cases hb:w.params.followText "set-order" with
  |true=>exact Rz _ (Jb (w.params.setOrder a ep) es) fun h q1 q2=>.text 0 #[] hb rfl rfl q1 q2
  |false=>
   have hd':(!t.plain&&decide (es.size>1))=false:=by
    cases hz:(!t.plain&&decide (es.size>1)) with
    |false=>rfl
    |true=>exact absurd (show(!w.params.followText "set-order" && (!t.plain&&decide (es.size>1)))=true by rw[hb,hz];rfl) hd
   have b0:SetTable.below t.place 0=0:=(qH x.tab.ris 0).uniq ⟨Nat.zero_le _,fun k hk h=>absurd h (Nat.not_lt_zero _),fun k hk h=>Nat.zero_le _⟩
   exact Rz _ (List.Perm.refl _) fun h q1 q2=>.place 0 #[] hb rfl rfl hd' b0 q1 q2
end
end L2
namespace L2
open PySem PySem.Spec PyProof.Rows PySem.W
section
variable{P:Program}{w:World}{A:Around}{E:Value->Shared->Prop}{s:Shared}
theorem MK{r:Addr}{Q:Bool->Shared->Prop} (ty:s.TypeIs (.ref r) "set") (h:Q false s):wpAny (model P w) A (Builtin.List.listLengthHint (.ref r)) Q E s:=by
 unfold Builtin.List.listLengthHint
 refine wpAny_bind (wpAny_specialOf ty PySem.F.slot_set_len.lookup ?_)
 generalize hid:("set.__len__" : String)=id0
 wp_delta
 rw[show splitId id0=some ("set","__len__") from by subst hid;decide +kernel]
 subst hid
 refine wpAny_bind (wpAny_isInstance (T:="set") (b:=true) ty (by rw[isSubtype_type];kernel_rfl) ?_)
 refine wpAny_ite_split (fun z=>absurd z (by decide)) (fun _=>wpAny_ite_split (fun _=>?_) (fun z=>absurd (by decide +kernel) z))
 exact wpAny_bind (wpAny_typeOf ty (wpAny_pure h))
theorem Bo{a:Addr}{es:Array (Int×Value)}{ep:Nat}{t:SetTable}{ds:List Int}{C:List Value->Shared->Prop}(hh:A.handled=none)(e:s.heap.get? a=some (cD es ep t)) (x:qw (!w.params.followText "set-order") es t ds)
  (fin:∀(hp:Heap)(tk:Nat)(d':Drawn)(L:List (Int×Value))(got:Array Value),(∀ b o,s.heap.get? b=some o->hp.get? b=some o)->s.heap.objs.size<=hp.objs.size->L.Perm es.toList->got.toList=L.map (·.2)->C got.toList { s with heap:=hp,toks:=tk,drawn:=d' }):wpAny (model P w) A (collect (.ref a)) C E s:=by
 have lta:=Heap.lt_size e
 unfold collect
 refine wpAny_bind (wpAny_runValue (codeAny_builtin PySem.F.entry_proto_collect ?_))
 rw[Around.under_plainId PySem.F.plain_proto_collect _]
 refine(show wpAny _ A.in1 (newList [] >>= fun q=>again (.builtin "list.__iadd__" ⟨[q,.ref a],[]⟩)) _ _ s from wpAny_bind (wpAny_newObj_type (wpAny_pure ⟨plainId_quiet PySem.F.plain_list_iadd _,codeAny_builtin PySem.F.entry_list_iadd ?_⟩)))
 rw[Around.under_plainId PySem.F.plain_list_iadd _]
 generalize hL0:s.heap.push { cls:=.type "list",data:=.seq ([]:List Value).toArray }=H0
 have new:H0.get? s.heap.objs.size=some { cls:=.type "list",data:=.seq #[] }:=by subst hL0;exact Heap.get?_push_size _ rfl
 have old:∀ b o,s.heap.get? b=some o->H0.get? b=some o:=by subst hL0;exact fun b o q=>Heap.get?_push_of_some _ q
 have big:H0.objs.size=s.heap.objs.size+1:=by subst hL0;exact Heap.size_push _ _
 have ty:({ s with heap:=H0 }:Shared).TypeIs (.ref a) "set":=⟨_,old _ _ e,rfl⟩
 refine(show wpAny (model P w) A.in1 (Builtin.List.listExtendWith (.ref s.heap.objs.size) (.ref a) (.ref s.heap.objs.size)) _ _ _ from ?_)
 unfold Builtin.List.listExtendWith
 refine wpAny_bind (wpAny_typeOf (T:="set") ty ?_)
 have h1:Builtin.List.listSameRef (.ref s.heap.objs.size) (.ref a)=false:=by simp[Builtin.List.listSameRef,Nat.ne_of_gt lta]
 have h2:(Value.type "set" == Value.type "list")=false:=by decide
 have h3:(Value.type "set" == Value.type "tuple")=false:=by decide
 rw[h1,h2,h3]
 simp only[Bool.or_false,Bool.false_eq_true,if_false]
 refine wpAny_bind (MP (s:={ s with heap:=H0 }) (old _ _ e) x fun I T L h' d' ok st hI hT keep=>?_)
 have nS:s.heap.objs.size∉fpS I a T:=by
  have n1:s.heap.objs.size≠I:=fun z=>by have:H0.objs.size<=I:=hI;rw[big,<- z] at this;exact Nat.lt_irrefl _ this
  have n2:s.heap.objs.size≠a:=Nat.ne_of_gt lta
  cases T with
  |none=>simp[fpS,n1,n2]
  |some tp=>
   have n3:s.heap.objs.size≠tp:=fun z=>by have:H0.objs.size<=tp:=hT tp rfl;rw[big,<- z] at this;exact Nat.lt_irrefl _ this
   simp[fpS,n1,n2,n3]
 have len:L.length<=sizeLine:=by rw[ok.perm.length_eq,Array.length_toList,x.len,sizeLine_eq];have:=x.sm;lia
 have W:=Jo (P:=P) (A:=A.in1) (ep:=ep) (show A.in1.handled=none from hh) ok
 have go:∀(h1:Heap)(c1 tk:Nat),kZ w I a T es ep t L 0 h1->(∀ b o,s.heap.get? b=some o->h1.get? b=some o)->h1.get? s.heap.objs.size=some { cls:=.type "list",data:=.seq #[] c1 } ->
   codeAny (model P w) A (.builtin "list.extend.loop" ⟨[.ref s.heap.objs.size,.ref I,.ref s.heap.objs.size],[]⟩) (fun r s2=>r=.ok (.ret (.ref s.heap.objs.size))/\wpAny (model P w) A (load s.heap.objs.size >>= fun o=>match o.data with|.seq xs _=>pure xs.toList|_=>unsupported "internal:collect") C E s2) { s with heap:=h1,drawn:=d',toks:=tk }:=fun h1 c1 tk st1 k1 at1=>by
  refine codeAny_extend_loopS W.toS len s.heap.objs.size nS _ L.length 0 _ #[] c1 rfl (Nat.zero_le _) st1 at1 (ItemsOf.nil _) fun s2 acc c2 mv at2 items=>?_
  rw[Moved.eq_with mv]
  refine⟨rfl,wpAny_bind (wpAny_load at2 (wpAny_pure ?_))⟩
  refine fin s2.heap s2.toks d' L acc (fun b o q=>mv.heap b o (fun z=>?_) (k1 b o q)) (Nat.le_of_lt (Heap.lt_size at2)) ok.perm ?_
  ·rcases List.mem_cons.mp z with z|z
   ·exact absurd (Heap.lt_size q) (by rw[z];exact Nat.lt_irrefl _)
   ·rw[List.mem_singleton.mp z] at q
    have h5:H0.objs.size<=I:=hI
    rw[big] at h5
    exact absurd (Heap.lt_size q) (Nat.not_lt.mpr (Nat.le_of_succ_le h5))
  ·refine List.ext_getElem? fun j=>?_
   rw[Array.getElem?_toList,List.getElem?_map]
   by_cases hj:j<L.length
   ·have hg:j<acc.size:=by rw[items.1];exact hj
    obtain⟨_,ev⟩:=items.2 j acc[j] (Array.getElem?_eq_getElem hg)
    rw[Array.getElem?_eq_getElem hg,ev,List.getElem?_eq_getElem hj];rfl
   ·rw[Array.getElem?_eq_none (by rw[items.1];lia),List.getElem?_eq_none (by lia)];rfl
 have at1:=keep _ _ new
 refine wpAny_bind (wpAny_holding (MK ⟨_,keep _ _ (old _ _ e),rfl⟩ ?_))
 refine wpAny_ite_split (fun _=>?_) (fun _=>wpAny_pure ⟨plainId_quiet PySem.F.plain_extend_loop _,codeAny_mono (go h' 0 s.toks st (fun b o q=>keep b o (old b o q)) at1) fun q s3 z=>?_⟩)
 ·refine wpAny_bind (wpAny_rule (wpAny_bind (show wpAny _ _ (updateSeq s.heap.objs.size (·.push .none) >>= fun _=>updateSeq s.heap.objs.size (·.pop)) _ _ _ from wpAny_bind (wpAny_updateSeq at1 rfl ?_))))
  have at2:=Heap.get?_update_self (Obj.mapSeq (·.push Value.none)) at1 rfl
  refine wpAny_updateSeq (hz:=by seq_fits) at2 rfl ?_
  have at3:=Heap.get?_update_self (Obj.mapSeq (·.pop)) at2 rfl
  have oth:∀ b o,b≠s.heap.objs.size->h'.get? b=some o->((h'.update s.heap.objs.size (Obj.mapSeq (·.push Value.none))).update s.heap.objs.size (Obj.mapSeq (·.pop))).get? b=some o:=fun b o hb q=>by
   rw[Heap.get?_update_ne _ _ _ _ hb,Heap.get?_update_ne _ _ _ _ hb];exact q
  refine wpAny_pure ⟨plainId_quiet PySem.F.plain_extend_loop _,codeAny_mono (go _ _ s.toks (st.frame fun b hb o q=>oth b o (fun z=>nS (by rw[<- z];exact hb)) q) (fun b o q=>oth b o (Nat.ne_of_lt (Heap.lt_size q)) (keep b o (old b o q))) at3) fun q s3 z=>?_⟩
  obtain⟨rfl,z⟩:=z
  exact z
 ·obtain⟨rfl,z⟩:=z
  exact z
end
end L2
namespace L2
open PySem PySem.Spec PyProof.Rows PySem.W
def T7(a b:Int):Bool:=decide (a<b)
theorem G9:fJ T7:=by
 refine⟨fun a b h=>?_,fun a b c h1 h2=>?_,fun a b h1 h2=>?_⟩
 ·have:=of_decide_eq_true h
  exact decide_eq_false (by lia)
 ·have h1':=of_decide_eq_false h1
  have h2':=of_decide_eq_false h2
  exact decide_eq_false (by lia)
 ·have h1':=of_decide_eq_false h1
  have h2':=of_decide_eq_false h2
  lia
theorem Dp{P:Program}{w:World}{h:Heap}{us:List Value}{ns:List Int}(r:IntsAre us ns):wF P w h us T7 fun i=>ns.getD i 0:=by
 have hl:us.length=ns.length:=IntsAre.length r
 have at_:∀ i,i<us.length->∃ t,us.getD i Value.none=.int (ns.getD i 0) t:=fun i hi=>by
  obtain⟨t,e⟩:=IntsAre.int_at r i us[i] (List.getElem?_eq_getElem hi)
  exact⟨t,by rw[List.getD_eq_getElem?_getD,List.getElem?_eq_getElem hi];exact e⟩
 refine⟨fun h2=>⟨oneType',fun A' E' s' Q' kp q=>?_,fun A' s' i j C hu kp hi hj hC=>?_⟩⟩
 ·rw[ksk_kind (keys:=us.toArray) (kz:=ns) (by simpa using r) (by simpa using h2)]
  exact wpAny_pure q
 ·obtain⟨t,e⟩:=at_ i hi
  obtain⟨u,e'⟩:=at_ j hj
  rw[e,e']
  exact kat_lt_int hC
theorem qg:∀ {us:List Value} {ns:List Int},IntsAre us ns->Vals (ns.map V.int) us
 |_,_,.nil=>.nil
 |_,_,.cons n t h=>.cons ⟨t,rfl⟩ (qg h)
def Ej(w:World)(a:Addr)(ns:List Int):HO:=.ext fun h=>∃ ds,jK (!w.params.followText "set-order") h a ds/\(∀ m,m∈ds↔m∈ns)/\ds.length<=ns.length
section
variable{X:Cx}
def WR(K:PySem.W.Frag)(w:World):List V->Hp->VK->Prop:=fun xs H Q=>∃(p:Addr)(ns:List Int),xs=[.ref p]/\SqL K H p (ns.map V.int)/\ns.length<3000/\∀ a,H a=none->Q (.ref a) (upd H a (Ej w a ns))
theorem Hr(hc:X.calm=true):cA X (.type "set") (WR X.K X.w):=by
 intro pins s σ H xs us Q I r h
 obtain⟨p,ns,rfl,hq,hn,q⟩:=h
 obtain⟨u,rfl,ru⟩:=vals1 r
 cases ru
 obtain⟨its,rv,pl,hz⟩:=I.list hq
 have ia:=intsAre_of rv
 have hl:its.length=ns.length:=IntsAre.length ia
 refine Hq (I.ok.hd hc) pl.isList (by simpa using ia) (by rw[List.size_toArray];lia) fun h' tk ds sa md ld keep=>?_
 have hn:H s.heap.objs.size=none:=I.hok.fresh (Nat.le_refl _)
 refine⟨.ref s.heap.objs.size,upd H s.heap.objs.size (Ej X.w s.heap.objs.size ns),I.laid (t':=tk) keep (Nat.le_refl _) ⟨⟨ds,sa,md,ld⟩,?_,fun h1 h2 hp hk=>?_⟩,rfl,q _ hn⟩
 ·obtain⟨es,ep,t,e,_⟩:=sa
  exact⟨_,e⟩
 ·obtain⟨ds,sa,r⟩:=hp
  exact⟨ds,sa.kept hk,r⟩
theorem Wa{K:PySem.W.Frag}{w:World}(hc:X.calm=true)(hK:X.K=K:=by rfl)(hw:X.w=w:=by rfl):cA X (.type "set") (WR K w):=by subst hK hw;exact Hr hc
theorem Inv.draws{pins:List (Addr×Obj)}{σ:L2.St}{H:Hp}{s:Shared}(I:Inv X pins σ H s)(d':Drawn):Inv X pins σ H { s with drawn:=d' }:=
 ⟨I.ok,I.os,I.bare,I.base,I.loc,I.cell,I.free,I.iC,I.pin,I.hok,I.len⟩
theorem Jx{ns:List Int}{n:Nat}{o:Array Nat}(hn:n=ns.length)(g:Good n o)(up:jm T7 (fun i=>ns.getD i 0) o n)(nd:ns.Nodup):(o.toList.map fun i=>ns.getD i 0).Pairwise (· < ·):=by
 have pc:(o.toList.map fun i=>ns.getD i 0).Perm ns:=nH (by rw[<- hn];exact g.perm)
 have nd':(o.toList.map fun i=>ns.getD i 0).Nodup:=pc.nodup_iff.mpr nd
 rw[List.pairwise_iff_getElem]
 intro i j hi hj hij
 have hne:=List.pairwise_iff_getElem.mp nd' i j hi hj hij
 rw[List.length_map,Array.length_toList,g.size] at hi hj
 have hle:=up.le G9 (j-i) i (by lia)
 have e1:i+(j-i)=j:=by lia
 rw[e1] at hle
 have hno:=of_decide_eq_false hle
 have sz:=g.size
 have key:∀ k,(hk:k<n)->Ky (fun i=>ns.getD i 0) o k=(o.toList.map fun i=>ns.getD i 0)[k]'(by rw[List.length_map,Array.length_toList,sz];exact hk):=fun k hk=>by
  unfold Ky
  rw[List.getElem_map,Array.getD_eq_getD_getElem?,Array.getElem?_eq_getElem (by lia)]
  rfl
 rw[key i hi,key j hj] at hno
 lia
def Mf(w:World):List V->Hp->VK->Prop:=fun xs H Q=>∃(a:Addr)(ns:List Int),xs=[.ref a]/\H a=some (Ej w a ns)/\ns.length<64/\∀(l:Addr)(ms:List Int),H l=none->(∀ m,m∈ms↔m∈ns)->ms.Pairwise (· < ·)->Q (.ref l) (upd H l (.lst (ms.map V.int)))
theorem MN{L es:List (Int×Value)}(p:L.Perm es)(hi:∀ e∈es,RW e):IntsAre (L.map (·.2)) (L.map oK):=by
 have hi':∀ e∈L,RW e:=fun e he=>hi e (p.mem_iff.mp he)
 clear p hi
 induction L with
 |nil=>exact .nil
 |cons e L ih=>
  obtain⟨d,t,rfl⟩:=hi' e List.mem_cons_self
  exact .cons d t (ih fun e he=>hi' e (List.mem_cons_of_mem _ he))
theorem Cz(hc:X.calm=true)(hu:X.A.units+60<cLine):cA X (.builtin "sorted") (Mf X.w):=by
 intro pins s σ H xs us Q I r h
 obtain⟨a,ns,rfl,e,h64,q⟩:=h
 obtain⟨u,rfl,ru⟩:=vals1 r
 cases ru
 obtain⟨⟨ds,⟨es,ep,t,ea,x⟩,md,ld⟩,_,_⟩:=I.hok a _ e
 refine Calls.call_function_entry kind_sorted plain_sorted entry_sorted (args_sorted1 _) ?_
 unfold Builtin.«sorted»
 refine wpAny_bind (m:=checkCount "sorted" 1 1 _) (wpAny_pure (wpAny_bind (Bo (show X.A.in1.handled=none from I.ok.hd hc) ea x fun hp tk d' L got keep Nt pm eg=>?_)))
 have ia:IntsAre got.toList (L.map oK):=by rw[eg];exact MN pm x.els
 have pd:(L.map oK).Perm ds:=by have:=pm.map oK;rw[x.ids] at this;exact this
 have lg:got.toList.length=(L.map oK).length:=IntsAre.length ia
 have ln:(L.map oK).length=ds.length:=pd.length_eq
 generalize hits:got.toList=its at ia lg
 generalize hms:L.map oK=cs at pd ia lg ln
 have hz2:its.length<=sizeLine:=by rw[sizeLine_eq];lia
 refine wpAny_bind (wpAny_newList ?_ (by simpa using hz2))
 have at0:(hp.push (seqObj "list" its.toArray 0)).get? hp.objs.size=some (seqObj "list" its.toArray 0):=Heap.get?_push_size _ rfl
 show wpAny _ _ _ _ _ { s with heap:=hp.push (seqObj "list" its.toArray 0),toks:=tk,drawn:=d' }
 refine wpAny_bind (wpAny_holding (wpAny_call_entry slot_list_sort ⟨_,at0,rfl⟩ entry_list_sort (uz (h0:=s.heap) G9 (by show X.A.units+1+1+2<cLine;lia) (Dp ia) (by lia) at0 (fun b o eb=>⟨Heap.get?_push_of_some _ (keep b o eb),Nat.ne_of_lt (Heap.lt_size (keep b o eb))⟩) fun o g up=>⟨_,rfl,wpAny_pure ⟨_,rfl,?_⟩⟩) (args_list_sort _)))
 obtain⟨en,he⟩:=sortedHeap_at (vs:=its) (out:=(byP its o).toArray) at0
 have hn:H hp.objs.size=none:=I.hok.fresh Nt
 have rv:Vals (cs.map V.int) its:=qg ia
 have bd:∀ i∈o.toList,i<(cs.map V.int).length:=fun i hi=>by rw[List.length_map,<- lg];exact List.mem_range.mp (g.perm.mem_iff.mp hi)
 have ev:(o.toList.map fun i=>(cs.map V.int).getD i .non)=(o.toList.map fun i=>cs.getD i 0).map V.int:=by
  rw[List.map_map]
  refine List.map_congr_left fun i hi=>?_
  have:=bd i hi
  rw[List.length_map] at this
  simp[List.getD_eq_getElem?_getD,this]
 have rv':Vals ((o.toList.map fun i=>cs.getD i 0).map V.int) (byP its o):=by rw[<- ev];exact uh rv o.toList bd
 have pc:(o.toList.map fun i=>cs.getD i 0).Perm cs:=nH (by rw[<- lg];exact g.perm)
 have as:=Jx lg g up (pd.nodup_iff.mpr x.nd)
 have lo':((o.toList.map fun i=>cs.getD i 0).map V.int).length<=sizeLine:=by
  rw[List.length_map,List.length_map,Array.length_toList,g.size];exact hz2
 have I':=I.draws d'
 refine⟨.ref hp.objs.size,upd H hp.objs.size (.lst ((o.toList.map fun i=>cs.getD i 0).map V.int)),I'.laid (a:=hp.objs.size) (o:=.lst ((o.toList.map fun i=>cs.getD i 0).map V.int)) (t':=tk) (fun b o eb=>?_) Nt ⟨lo',byP its o,en,rv',he⟩,rfl,q _ _ hn (fun m=>by rw[pc.mem_iff,pd.mem_iff,md]) as⟩
 have eb':=keep b o eb
 rw[sortedHeap_old (Nat.ne_of_lt (Heap.lt_size eb')) (by rw[size_push'];exact Nat.lt_succ_of_lt (Heap.lt_size eb'))]
 exact Heap.get?_push_of_some _ eb'
theorem Pb{w:World}(hc:X.calm=true)(hu:X.A.units+60<cLine)(hw:X.w=w:=by rfl):cA X (.builtin "sorted") (Mf w):=by subst hw;exact Cz hc hu
def WQ(K:PySem.W.Frag):List V->Hp->VK->Prop:=fun xs H Q=>∃(p:Addr)(ns:List Int),xs=[.ref p]/\SqL K H p (ns.map V.int)/\ns≠[]/\∀ m,m∈ns->(∀ a∈ns,m<=a)->Q (.int m) H
theorem Ho(hc:X.calm=true):cA X (.builtin "min") (WQ X.K):=by
 intro pins s σ H xs us Q I r h
 obtain⟨p,ns,rfl,hq,hn,q⟩:=h
 obtain⟨u,rfl,ru⟩:=vals1 r
 cases ru
 obtain⟨its,rv,pl,hz⟩:=I.list hq
 have ia:=intsAre_of rv
 obtain⟨ys,e⟩:=ia.allInts.items
 have hns:ns=ys.toList.map (·.1):=by rw[<- ia.numsOf,<- nums_intItems,<- e]
 have hsz:0<ys.size:=by
  rcases Nat.eq_zero_or_pos ys.size with z|z
  ·exfalso;apply hn;rw[hns,List.map_eq_nil_iff];exact Array.toList_eq_nil_iff.mpr (Array.eq_empty_of_size_eq_zero z)
  ·exact z
 have pl':=pl.isList
 rw[e] at pl'
 refine min_intList (I.ok.hd hc) pl' hsz fun v h' tk hv hk=>?_
 obtain⟨t,rfl⟩:=intItems_at hv
 obtain⟨h1,h2⟩:=argBest_lt (numAt ys) (ys.size-1)
 refine⟨.int _,H,I.kept (t':=tk) hk,⟨t,rfl⟩,q _ ?_ fun a ha=>?_⟩
 ·rw[hns,numAt_eq];exact getD_mem (by rw[List.length_map,Array.length_toList];omega)
 ·rw[hns] at ha
  obtain⟨j,hj,rfl⟩:=mem_getD ha
  rw[List.length_map,Array.length_toList] at hj
  rw[<- numAt_eq];exact h2 j (by omega)
theorem W9{K:PySem.W.Frag}(hc:X.calm=true)(hK:X.K=K:=by rfl):cA X (.builtin "min") (WQ K):=by subst hK;exact Ho hc
end
end L2
namespace L2
open PySem PySem.Spec PyProof.Rows PySem.W
namespace TS
def el(xs:Array Keyed)(i:Nat):Keyed:=xs.getD i (Value.none,Value.none)
theorem qL{xs:Array Keyed}{i:Nat}(h:i<xs.size):el xs i∈xs.toList:=by
 unfold el
 rw[Array.getD_eq_getD_getElem?,Array.getElem?_eq_getElem h]
 exact Array.getElem_mem_toList h
theorem jQ{xs:Array Keyed}{i:Nat}(h:i<xs.size):xs[i]?=some (el xs i):=by
 unfold el
 rw[Array.getD_eq_getD_getElem?,Array.getElem?_eq_getElem h];rfl
section
variable{α:Type}{lt:α->α->Bool}{M:Model}{A:Around}{E:Value->Shared->Prop}{s:Shared}{κ:SortKind}{key:Keyed->α}{a₀:Array Keyed}
structure Env(M:Model)(A:Around)(s:Shared)(κ:SortKind)(key:Keyed->α)(lt:α->α->Bool)(a₀:Array Keyed):Prop where
 o:fJ lt
 ask:∀ x y,x∈a₀.toList->y∈a₀.toList->∀ C:Bool->Shared->Prop,C (lt (key x) (key y)) s->wpAny M A (keyLt' κ x.1 y.1) C (fun _ _=>False) s
def Srt(lt:α->α->Bool)(key:Keyed->α)(xs:Array Keyed)(i j:Nat):Prop:=∀ p q,i<=p->p<=q->q<j->lt (key (el xs q)) (key (el xs p))=false
def Fal(lt:α->α->Bool)(key:Keyed->α)(xs:Array Keyed)(i j:Nat):Prop:=∀ p q,i<=p->p<=q->q<j->lt (key (el xs p)) (key (el xs q))=false
theorem BR(e:Env M A s κ key lt a₀){x y:Keyed}(hx:x∈a₀.toList)(hy:y∈a₀.toList){st:SortSt}(hk:kindOf st=κ){Q:Option Bool->SortSt->Prop}(h:Q (some (lt (key x) (key y))) st):wpS M A E s (lt' x y) Q st:=by
 rw[lt'_eq]
 refine wpS_bind (wpS_get ?_)
 rw[hk]
 refine wpS_bind (wpS_lift (wpAny_attempt (wpAny_mono (e.ask x y hx hy (fun b s'=>s'=s/\b=lt (key x) (key y)) ⟨rfl,rfl⟩) ?_ fun _ _ z=>z.elim)))
 rintro b s' ⟨rfl,rfl⟩
 exact⟨rfl,wpS_pure h⟩
theorem cI{xs:Array Keyed}{i:Nat}(h:i<xs.size){st:SortSt}{Q:Keyed->SortSt->Prop}(q:Q (el xs i) st):wpS M A E s (elem' xs i) Q st:=by
 rw[elem'_eq,jQ h]
 exact wpS_pure q
theorem vD{xs:Array Keyed}(hp:xs.Perm a₀){i:Nat}(h:i<a₀.size):el xs i∈a₀.toList:=
 hp.toList.mem_iff.mp (qL (by rw[hp.size_eq];exact h))
theorem nM(e:Env M A s κ key lt a₀){st:SortSt}(hk:kindOf st=κ)(hp:(arrOf st).Perm a₀){i j:Nat}(hi:i<a₀.size)(hj:j<a₀.size){Q:Option Bool->SortSt->Prop}(h:Q (some (lt (key (el (arrOf st) i)) (key (el (arrOf st) j)))) st):wpS M A E s (ltAt' i j) Q st:=by
 rw[ltAt'_eq]
 refine wpS_bind (wpS_get ?_)
 exact wpS_bind (cI (by rw[hp.size_eq];exact hi) (wpS_bind (cI (by rw[hp.size_eq];exact hj) (BR e (vD hp hi) (vD hp hj) hk h))))
theorem ju{xs ys:Array Keyed}{i j:Nat}(h:xs[i]?=ys[j]?):el xs i=el ys j:=by
 unfold el
 rw[Array.getD_eq_getD_getElem?,Array.getD_eq_getD_getElem?,h]
theorem mZ{xs:Array Keyed}{i j:Nat}(hj:j<=xs.size)(k:Nat):el (mirror xs i j ((j-i) / 2)) k=if i<=k/\k<j then el xs (i+j-1-k) else el xs k:=by
 have e:=getElem?_mirror_all (i:=i) hj k
 by_cases h1:i<=k/\k<j
 ·rw[if_pos h1] at e ⊢;exact ju e
 ·rw[if_neg h1] at e ⊢;exact ju e
theorem qJ{xs:Array Keyed}{a d:Nat}(hs:a<xs.size)(hd:d<=a)(k:Nat):el (bubble xs a d) k=if k=a-d then el xs a else if a-d<k/\k<=a then el xs (k-1) else el xs k:=by
 have e:=getElem?_bubble hs d hd k
 by_cases h1:k=a-d
 ·rw[if_pos h1] at e ⊢;exact ju e
 ·rw[if_neg h1] at e ⊢
  by_cases h2:a-d<k/\k<=a
  ·rw[if_pos h2] at e ⊢;exact ju e
  ·rw[if_neg h2] at e ⊢;exact ju e
def Low(xs ys:Array Keyed)(lo:Nat):Prop:=∀ i,i<lo->el xs i=el ys i
theorem Low.refl{xs:Array Keyed}{lo:Nat}:Low xs xs lo:=fun _ _=>rfl
theorem Low.trans{xs ys zs:Array Keyed}{lo:Nat}(h:Low xs ys lo)(g:Low ys zs lo):Low xs zs lo:=fun i hi=>(h i hi).trans (g i hi)
theorem jV{xs:Array Keyed}{i j lo:Nat}(hj:j<=xs.size)(h:lo<=i):Low (mirror xs i j ((j-i) / 2)) xs lo:=fun k hk=>by
 rw[mZ hj,if_neg (by lia)]
def asl(lo m z:Nat):StateT SortSt Sem (Option Nat):=do
 let mut m:=m
 for _ in [m:z] do
  let some u <- ltAt' (lo+m) (lo+m-1)|return none
  if u then break
  m:=m+1
 return some m
def dsl(lo m z:Nat):StateT SortSt Sem (Option Nat):=do
 (rule "list.sort.descending-run" : Sem Unit)
 let mut m:=m+1
 let mut q:=0
 for _ in [m:z] do
  let some u <- ltAt' (lo+m) (lo+m-1)|return none
  if u then
   if q>0 then reverseSlice' (lo+m-(q+1)) (lo+m)
   q:=0
  else
   let some v <- ltAt' (lo+m-1) (lo+m)|return none
   if v then break
   q:=q+1
  m:=m+1
 if q>0 then
  reverseSlice' (lo+m-(q+1)) (lo+m)
  reverseSlice' lo (lo+m)
  asl lo m z
 else
  reverseSlice' lo (lo+m)
  asl lo m z
theorem Srt.one{xs:Array Keyed}{i:Nat}(o:fJ lt):Srt lt key xs i (i+1):=fun p q a b c=>by
 have:p=q:=by lia
 subst this;exact o.refl _
theorem Srt.more{xs:Array Keyed}{lo x:Nat}(o:fJ lt)(h1:1<=x)(hs:Srt lt key xs lo (lo+x))(hl:lt (key (el xs (lo+x))) (key (el xs (lo+x-1)))=false):Srt lt key xs lo (lo+(x+1)):=fun p q a b c=>by
 by_cases hq:q<lo+x
 ·exact hs p q a b hq
 ·have:q=lo+x:=by lia
  subst this
  by_cases hp:p=lo+x
  ·subst hp;exact o.refl _
  ·exact o.tr _ _ _ (hs p (lo+x-1) a (by lia) (by lia)) hl
theorem Fal.more{xs:Array Keyed}{lo x:Nat}(o:fJ lt)(h1:1<=x)(hs:Fal lt key xs lo (lo+x))(hl:lt (key (el xs (lo+x-1))) (key (el xs (lo+x)))=false):Fal lt key xs lo (lo+(x+1)):=fun p q a b c=>by
 by_cases hq:q<lo+x
 ·exact hs p q a b hq
 ·have:q=lo+x:=by lia
  subst this
  by_cases hp:p=lo+x
  ·subst hp;exact o.refl _
  ·exact o.tr _ _ _ hl (hs p (lo+x-1) a (by lia) (by lia))
theorem wj{b:Bool}(h:¬b=true):b=false:=by cases b<;>simp_all
theorem Vr(e:Env M A s κ key lt a₀){st:SortSt}(hk:kindOf st=κ)(hp:(arrOf st).Perm a₀){lo m z:Nat}(h1:1<=m)(h2:m<=z)(hz:lo+z<=a₀.size){Q:Option Nat->SortSt->Prop}(hs:Srt lt key (arrOf st) lo (lo+m))
  (h:∀ n,1<=n->n<=z->Srt lt key (arrOf st) lo (lo+n)->Q (some n) st):wpS M A E s (asl lo m z) Q st:=by
 unfold asl
 refine wpS_bind (wpS_mono (wpS_forRange (I:=fun x c st'=>st'=st/\c=(none,x)/\Srt lt key (arrOf st) lo (lo+x))
  (Q:=fun c st'=>st'=st/\∃ x,c=(none,x)/\1<=x/\x<=z/\Srt lt key (arrOf st) lo (lo+x)) ?step ?fin ?init) ?post)
 case init=>exact⟨rfl,rfl,hs⟩
 case fin=>
  rintro c st' ⟨rfl,rfl,g⟩
  rw[show max m z=z by lia] at g ⊢
  exact⟨rfl,z,rfl,by lia,Nat.le_refl _,g⟩
 case step=>
  rintro x c st' hax hxn ⟨rfl,rfl,hs⟩
  dsimp only
  refine wpS_bind (nM e hk hp (by lia) (by lia) ?_)
  dsimp only
  by_cases hb:lt (key (el (arrOf st') (lo+x))) (key (el (arrOf st') (lo+x-1)))=true
  ·rw[if_pos hb]
   exact wpS_pure ⟨rfl,x,rfl,by lia,by lia,hs⟩
  ·rw[if_neg hb]
   exact wpS_pure ⟨rfl,rfl,hs.more e.o (by lia) (wj hb)⟩
 case post=>
  rintro c st' ⟨rfl,x,rfl,a1,a2,hs⟩
  exact wpS_pure (h x a1 a2 hs)
theorem zE{st:SortSt}{i j:Nat}{Q:Unit->SortSt->Prop}(h:Q () (setArr st (mirror (arrOf st) i j ((j-i) / 2)))):wpS M A E s (reverseSlice' i j) Q st:=by
 rw[reverseSlice'_eq];exact wpS_modify h
theorem qK{xs:Array Keyed}{i j:Nat}(hj:j<=xs.size)(he:∀ k,i<=k->k<j->key (el xs k)=key (el xs (j-1)))(k:Nat):key (el (mirror xs i j ((j-i) / 2)) k)=key (el xs k):=by
 rw[mZ hj]
 by_cases h:i<=k/\k<j
 ·rw[if_pos h,he _ (by omega) (by omega),he k h.1 h.2]
 ·rw[if_neg h]
theorem O2(e:Env M A s κ key lt a₀){st:SortSt}(hk:kindOf st=κ)(hp:(arrOf st).Perm a₀){lo m z:Nat}(h2:m+1<=z)(hz:lo+z<=a₀.size){Q:Option Nat->SortSt->Prop}(hs:Fal lt key (arrOf st) lo (lo+(m+1)))
  (h:∀ n xs,xs.Perm a₀->Low xs (arrOf st) lo->1<=n->n<=z->Srt lt key xs lo (lo+n)->Q (some n) (setArr st xs)):wpS M A E s (dsl lo m z) Q st:=by
 unfold dsl
 refine wpS_bind (wpS_lift (wpAny_rule ⟨rfl,?_⟩))
 let Eq:Array Keyed->Nat->Nat->Prop:=fun xs x q=>∀ i,lo+x-(q+1)<=i->i<lo+x->key (el xs i)=key (el xs (lo+x-1))
 refine wpS_bind (wpS_mono (wpS_forRange (I:=fun x c st'=>∃ xs q,st'=setArr st xs/\c=(none,x,q)/\xs.Perm a₀/\Low xs (arrOf st) lo/\Fal lt key xs lo (lo+x)/\q+1<=x/\Eq xs x q)
  (Q:=fun c st'=>∃ xs x q,st'=setArr st xs/\c=(none,x,q)/\xs.Perm a₀/\Low xs (arrOf st) lo/\1<=x/\x<=z/\Fal lt key xs lo (lo+x)/\q+1<=x/\Eq xs x q) ?step ?fin ?init) ?post)
 case init=>
  refine⟨arrOf st,0,rfl,rfl,hp,Low.refl,hs,by lia,fun i a b=>?_⟩
  have:i=lo+(m+1)-1:=by lia
  rw[this]
 case fin=>
  rintro c st' ⟨xs,q,rfl,rfl,a1,a2,a3,a4,a5⟩
  rw[show max (m+1) z=z by lia] at a3 a4 a5 ⊢
  exact⟨xs,z,q,rfl,rfl,a1,a2,by lia,Nat.le_refl _,a3,a4,a5⟩
 case step=>
  rintro x c st' hax hxn ⟨xs,q,rfl,rfl,a1,a2,a3,a4,a5⟩
  have sz:xs.size=a₀.size:=a1.size_eq
  dsimp only
  refine wpS_bind (nM e (st:=setArr st xs) hk a1 (by lia) (by lia) ?_)
  dsimp only
  show wpS M A E s _ _ (setArr st xs)
  by_cases hb:lt (key (el xs (lo+x))) (key (el xs (lo+x-1)))=true
  ·rw[if_pos hb]
   have one:∀ ys:Array Keyed,Eq ys (x+1) 0:=fun ys i a b=>by
    have:i=lo+(x+1)-1:=by lia
    rw[this]
   have fm:∀ ys:Array Keyed,(∀ k,key (el ys k)=key (el xs k))->Fal lt key ys lo (lo+(x+1)):=fun ys hy=>by
    have:=a3.more e.o (by lia) (e.o.sZ _ _ hb)
    intro p q b1 b2 b3
    rw[hy,hy];exact this p q b1 b2 b3
   by_cases hq:q>0
   ·rw[if_pos hq]
    refine wpS_bind (zE (wpS_pure ⟨_,0,rfl,rfl,(mirror_perm _ _ _ _).trans a1,(jV (by show _<=xs.size;lia) (by lia)).trans a2,fm _ (qK (by show _<=xs.size;lia) a5),by lia,one _⟩))
   ·rw[if_neg hq]
    exact wpS_pure ⟨xs,0,rfl,rfl,a1,a2,fm _ fun _=>rfl,by lia,one _⟩
  ·rw[if_neg hb]
   refine wpS_bind (nM e (st:=setArr st xs) hk a1 (by lia) (by lia) ?_)
   dsimp only
   show wpS M A E s _ _ (setArr st xs)
   by_cases hd:lt (key (el xs (lo+x-1))) (key (el xs (lo+x)))=true
   ·rw[if_pos hd]
    exact wpS_pure ⟨xs,x,q,rfl,rfl,a1,a2,by lia,by lia,a3,a4,a5⟩
   ·rw[if_neg hd]
    have ek:key (el xs (lo+x))=key (el xs (lo+x-1)):=e.o.anti _ _ (wj hb) (wj hd)
    refine wpS_pure ⟨xs,q+1,rfl,rfl,a1,a2,a3.more e.o (by lia) (wj hd),by lia,fun i b1 b2=>?_⟩
    rw[show lo+(x+1)-1=lo+x by lia]
    by_cases hi:i=lo+x
    ·rw[hi]
    ·rw[ek];exact a5 i (by lia) (by lia)
 case post=>
  rintro c st' ⟨xs,x,q,rfl,rfl,a1,a2,a3,a4,a5,a6,a7⟩
  have sz:xs.size=a₀.size:=a1.size_eq
  dsimp only
  have fin:∀ ys:Array Keyed,ys.Perm a₀->Low ys (arrOf st) lo->(∀ k,key (el ys k)=key (el xs k))->wpS M A E s (reverseSlice' lo (lo+x) >>= fun _=>asl lo x z) Q (setArr st ys):=fun ys hy ly ky=>by
   have sy:ys.size=a₀.size:=hy.size_eq
   refine wpS_bind (zE ?_)
   show wpS M A E s _ _ (setArr st (mirror ys lo (lo+x) ((lo+x-lo) / 2)))
   refine Vr e (st:=setArr st (mirror ys lo (lo+x) ((lo+x-lo) / 2))) hk (show(mirror ys lo (lo+x) ((lo+x-lo) / 2)).Perm a₀ from(mirror_perm _ _ _ _).trans hy) a3 a4 hz ?_ fun n n1 n2 n3=>h n _ ((mirror_perm _ _ _ _).trans hy) ((jV (by lia) (Nat.le_refl _)).trans ly) n1 n2 n3
   intro p q b1 b2 b3
   show lt (key (el (mirror ys lo (lo+x) ((lo+x-lo) / 2)) q)) (key (el (mirror ys lo (lo+x) ((lo+x-lo) / 2)) p))=false
   rw[mZ (by lia),mZ (by lia),if_pos (by lia),if_pos (by lia),ky,ky]
   exact a5 _ _ (by lia) (by lia) (by lia)
  by_cases hq:q>0
  ·rw[if_pos hq]
   refine wpS_bind (zE (fin _ ((mirror_perm _ _ _ _).trans a1) ((jV (by show _<=xs.size;lia) (by lia)).trans a2) (qK (by show _<=xs.size;lia) a7)))
  ·rw[if_neg hq]
   exact fin xs a1 a2 fun _=>rfl
theorem w5(e:Env M A s κ key lt a₀){st:SortSt}(hk:kindOf st=κ)(hp:(arrOf st).Perm a₀){lo z:Nat}(h1:1<=z)(hz:lo+z<=a₀.size){Q:Option Nat->SortSt->Prop}
  (h:∀ m xs,xs.Perm a₀->Low xs (arrOf st) lo->1<=m->m<=z->Srt lt key xs lo (lo+m)->Q (some m) (setArr st xs)):wpS M A E s (countRun' lo z) Q st:=by
 rw[countRun'_eq]
 have sz:(arrOf st).size=a₀.size:=hp.size_eq
 refine wpS_bind (wpS_mono (wpS_forRange (I:=fun x c st'=>st'=st/\c=(none,x)/\Srt lt key (arrOf st) lo (lo+x))
  (Q:=fun c st'=>st'=st/\∃ x,c=(none,x)/\1<=x/\x<=z/\Srt lt key (arrOf st) lo (lo+x)/\(x<z->lt (key (el (arrOf st) (lo+x))) (key (el (arrOf st) (lo+x-1)))=true)) ?step ?fin ?init) ?post)
 case init=>exact⟨rfl,rfl,Srt.one e.o⟩
 case fin=>
  rintro c st' ⟨rfl,rfl,g⟩
  rw[show max 1 z=z by lia] at g ⊢
  exact⟨rfl,z,rfl,by lia,Nat.le_refl _,g,fun a=>absurd a (Nat.lt_irrefl _)⟩
 case step=>
  rintro x c st' hax hxn ⟨rfl,rfl,hs⟩
  dsimp only
  refine wpS_bind (nM e hk hp (by lia) (by lia) ?_)
  dsimp only
  by_cases hb:lt (key (el (arrOf st') (lo+x))) (key (el (arrOf st') (lo+x-1)))=true
  ·rw[if_pos hb]
   exact wpS_pure ⟨rfl,x,rfl,by lia,by lia,hs,fun _=>hb⟩
  ·rw[if_neg hb]
   exact wpS_pure ⟨rfl,rfl,hs.more e.o (by lia) (wj hb)⟩
 case post=>
  rintro c st' ⟨rfl,x,rfl,a1,a2,hs,hl⟩
  dsimp only
  have own:Q (some x) st':=h x (arrOf st') hp Low.refl a1 a2 hs
  by_cases hx:x=z
  ·rw[if_pos (by simpa using hx)]
   exact wpS_pure own
  ·rw[if_neg (by simpa using hx)]
   have hl':=hl (by lia)
   by_cases hg:x>1
   ·rw[if_pos hg]
    refine wpS_bind (nM e hk hp (by lia) (by lia) ?_)
    dsimp only
    by_cases hb:lt (key (el (arrOf st') lo)) (key (el (arrOf st') (lo+x-1)))=true
    ·rw[if_pos hb]
     exact wpS_pure own
    ·rw[if_neg hb]
     have hall:∀ k,lo<=k->k<lo+x->key (el (arrOf st') k)=key (el (arrOf st') (lo+x-1)):=fun k c1 c2=>
      e.o.anti _ _ (e.o.tr _ _ _ (wj hb) (hs lo k (Nat.le_refl _) c1 c2)) (hs k (lo+x-1) c1 (by lia) (by lia))
     refine wpS_bind (zE ?_)
     have hm:(mirror (arrOf st') lo (lo+x) ((lo+x-lo) / 2)).Perm a₀:=(mirror_perm _ _ _ _).trans hp
     have lm:Low (mirror (arrOf st') lo (lo+x) ((lo+x-lo) / 2)) (arrOf st') lo:=jV (by lia) (Nat.le_refl _)
     change wpS M A E s (dsl lo x z) Q _
     refine O2 e (st:=setArr st' (mirror (arrOf st') lo (lo+x) ((lo+x-lo) / 2))) hk (show(mirror (arrOf st') lo (lo+x) ((lo+x-lo) / 2)).Perm a₀ from hm) (by lia) hz ?_ fun n xs b1 b2 b3 b4 b5=>h n xs b1 (b2.trans lm) b3 b4 b5
     show Fal lt key (mirror (arrOf st') lo (lo+x) ((lo+x-lo) / 2)) lo (lo+(x+1))
     refine Fal.more e.o (by lia) (fun p q b1 b2 b3=>?_) ?_
     ·rw[qK (by lia) hall,qK (by lia) hall,hall p (by lia) (by lia),hall q (by lia) (by lia)];exact e.o.refl _
     ·rw[qK (by lia) hall,qK (by lia) hall];exact e.o.sZ _ _ hl'
   ·rw[if_neg hg]
    change wpS M A E s (dsl lo x z) Q _
    refine O2 e hk hp (by lia) hz ?_ h
    have:x=1:=by lia
    subst this
    refine Fal.more e.o (by lia) (fun p q b1 b2 b3=>?_) (e.o.sZ _ _ hl')
    have:p=q:=by lia
    subst this;exact e.o.refl _
theorem Et(e:Env M A s κ key lt a₀){st:SortSt}(hk:kindOf st=κ)(hp:(arrOf st).Perm a₀){lo n m:Nat}(hm:1<=m)(hmn:m<=n)(hz:lo+n<=a₀.size){Q:Bool->SortSt->Prop}(hs:Srt lt key (arrOf st) lo (lo+m))
  (h:∀ xs,xs.Perm a₀->Low xs (arrOf st) lo->Srt lt key xs lo (lo+n)->Q true (setArr st xs)):wpS M A E s (binarySort' lo n m) Q st:=by
 rw[binarySort'_eq]
 rw[show max m 1=m by lia]
 refine wpS_bind (wpS_mono (wpS_forRange (I:=fun k c st'=>∃ xs,st'=setArr st xs/\c=(none,())/\xs.Perm a₀/\Low xs (arrOf st) lo/\Srt lt key xs lo (lo+k))
  (Q:=fun c st'=>∃ xs,st'=setArr st xs/\c=(none,())/\xs.Perm a₀/\Low xs (arrOf st) lo/\Srt lt key xs lo (lo+n)) ?step ?fin ?init) ?post)
 case init=>exact⟨arrOf st,rfl,rfl,hp,Low.refl,hs⟩
 case fin=>
  rintro c st' ⟨xs,rfl,rfl,a1,a2,a3⟩
  rw[show max m n=n by lia] at a3
  exact⟨xs,rfl,rfl,a1,a2,a3⟩
 case post=>
  rintro c st' ⟨xs,rfl,rfl,a1,a2,a3⟩
  exact wpS_pure (h xs a1 a2 a3)
 case step=>
  rintro k c st' hk1 hk2 ⟨xs,rfl,rfl,a1,a2,a3⟩
  have sz:xs.size=a₀.size:=a1.size_eq
  refine wpS_bind (wpS_mono (wpS_forRange (I:=fun x c st'=>st'=setArr st xs/\∃ l r,c=(none,l,r)/\l<=r/\r<=k/\r-l<=k-x /\
    (∀ i,i<l->lt (key (el xs (lo+k))) (key (el xs (lo+i)))=false)/\(∀ i,r<=i->i<k->lt (key (el xs (lo+i))) (key (el xs (lo+k)))=false))
   (Q:=fun c st'=>st'=setArr st xs/\∃ l r,c=(none,l,r)/\l<=k /\
    (∀ i,i<l->lt (key (el xs (lo+k))) (key (el xs (lo+i)))=false)/\(∀ i,l<=i->i<k->lt (key (el xs (lo+i))) (key (el xs (lo+k)))=false)) ?is ?ie ?ii) ?ip)
  case ii=>exact⟨rfl,0,k,rfl,by lia,by lia,by lia,fun i hi=>by lia,fun i b c=>by lia⟩
  case ie=>
   rintro c st' ⟨rfl,l,r,rfl,b1,b2,b3,b4,b5⟩
   have:l=r:=by lia
   subst this
   exact⟨rfl,l,l,rfl,b2,b4,b5⟩
  case is=>
   rintro x c st' _ hx ⟨rfl,l,r,rfl,b1,b2,b3,b4,b5⟩
   dsimp only
   by_cases hge:l>=r
   ·rw[if_pos hge]
    have:l=r:=by lia
    subst this
    exact wpS_pure ⟨rfl,l,l,rfl,b2,b4,b5⟩
   ·rw[if_neg hge]
    refine wpS_bind (nM e (st:=setArr st xs) hk a1 (by lia) (by lia) ?_)
    dsimp only
    show wpS M A E s _ _ (setArr st xs)
    by_cases hb:lt (key (el xs (lo+k))) (key (el xs (lo+(l+r) / 2)))=true
    ·rw[if_pos hb]
     refine wpS_pure ⟨rfl,l,(l+r) / 2,rfl,by lia,by lia,by lia,b4,fun i c1 c2=>?_⟩
     exact e.o.tr _ _ _ (e.o.sZ _ _ hb) (a3 (lo+(l+r) / 2) (lo+i) (by lia) (by lia) (by lia))
    ·rw[if_neg hb]
     refine wpS_pure ⟨rfl,(l+r) / 2+1,r,rfl,by lia,by lia,by lia,fun i c1=>?_,b5⟩
     exact e.o.tr _ _ _ (a3 (lo+i) (lo+(l+r) / 2) (by lia) (by lia) (by lia)) (wj hb)
  case ip=>
   rintro c st' ⟨rfl,l,r,rfl,b2,b4,b5⟩
   dsimp only
   rw[moveDown'_eq]
   refine wpS_bind (wpS_modify (wpS_pure ⟨_,rfl,rfl,(bubble_perm _ _ _).trans a1,fun i hi=>?_,?_⟩))
   ·show el (bubble xs (lo+k) (lo+k-(lo+l))) i=_
    rw[qJ (by lia) (by lia),if_neg (by lia),if_neg (by lia)];exact a2 i hi
   ·intro p q c1 c2 c3
    show lt (key (el (bubble xs (lo+k) (lo+k-(lo+l))) q)) (key (el (bubble xs (lo+k) (lo+k-(lo+l))) p))=false
    rw[qJ (by lia) (by lia),qJ (by lia) (by lia),show lo+k-(lo+k-(lo+l))=lo+l by lia]
    have b4':∀ i,lo<=i->i<lo+l->lt (key (el xs (lo+k))) (key (el xs i))=false:=fun i d1 d2=>by
     have:=b4 (i-lo) (by lia)
     rwa[show lo+(i-lo)=i by lia] at this
    have b5':∀ i,lo+l<=i->i<lo+k->lt (key (el xs i)) (key (el xs (lo+k)))=false:=fun i d1 d2=>by
     have:=b5 (i-lo) (by lia) (by lia)
     rwa[show lo+(i-lo)=i by lia] at this
    repeat' split
    all_goals first
     |(exfalso;lia)
     |exact e.o.refl _
     |exact b4' _ (by lia) (by lia)
     |exact b5' _ (by lia) (by lia)
     |exact a3 _ _ (by lia) (by lia) (by lia)
end
end TS
end L2
namespace L2
open PySem PySem.Spec PyProof.Rows PySem.W
namespace TS
def gal:Bool->Keyed->Array Keyed->Nat->Nat->Nat->StateT SortSt Sem (Option Nat):=sortPriv% PySem.Builtin.gallop
def bey(l:Bool)(y:Keyed)(xs:Array Keyed)(i:Nat):StateT SortSt Sem (Option Bool):=do
 let x <- elem' xs i
 if l then lt' x y else return (<- lt' y x).map (!·)
theorem T4(l:Bool)(y:Keyed)(xs:Array Keyed)(b n t:Nat):gal l y xs b n t=(do
 let mut o':=0
 let mut o:=1
 let mut p:=0
 let mut q:=0
 let some r <- bey l y xs (b+t)|return none
 if r then
  let z:=n-t
  for _ in [0:n] do
   if o>=z then break
   let some g <- bey l y xs (b+(t+o))|return none
   if !g then break
   o':=o
   o:=2*o+1
  p:=t+o'+1
  q:=t+min o z
 else
  let z:=t+1
  for _ in [0:n] do
   if o>=z then break
   let some g <- bey l y xs (b+(t-o))|return none
   if g then break
   o':=o
   o:=2*o+1
  p:=t+1-min o z
  q:=t-o'
 for _ in [0:n] do
  if p>=q then break
  let m:=p+(q-p) / 2
  let some g <- bey l y xs (b+m)|return none
  if g then p:=m+1 else q:=m
 return some q):=rfl
section
variable{α:Type}{lt:α->α->Bool}{M:Model}{A:Around}{E:Value->Shared->Prop}{s:Shared}{κ:SortKind}{key:Keyed->α}{a₀:Array Keyed}
def bv(lt:α->α->Bool)(key:Keyed->α)(l:Bool)(y x:Keyed):Bool:=if l then lt (key x) (key y) else !lt (key y) (key x)
theorem zB(e:Env M A s κ key lt a₀){st:SortSt}(hk:kindOf st=κ){l:Bool}{y:Keyed}{xs:Array Keyed}{i:Nat}(hy:y∈a₀.toList)(hi:i<xs.size)(hx:el xs i∈a₀.toList){Q:Option Bool->SortSt->Prop}(h:Q (some (bv lt key l y (el xs i))) st):wpS M A E s (bey l y xs i) Q st:=by
 unfold bey
 refine wpS_bind (cI hi ?_)
 cases l
 ·refine wpS_bind (BR e hy hx hk (wpS_pure ?_))
  exact h
 ·exact BR e hx hy hk h
def bsr(l:Bool)(y:Keyed)(xs:Array Keyed)(b n p q:Nat):StateT SortSt Sem (Option Nat):=do
 let mut p:=p
 let mut q:=q
 for _ in [0:n] do
  if p>=q then break
  let m:=p+(q-p) / 2
  let some g <- bey l y xs (b+m)|return none
  if g then p:=m+1 else q:=m
 return some q
theorem O1(e:Env M A s κ key lt a₀){st:SortSt}(hk:kindOf st=κ){l:Bool}{y:Keyed}{xs:Array Keyed}{b n p q:Nat}(hy:y∈a₀.toList)(hz:b+n<=xs.size)(hm:∀ i,i<n->el xs (b+i)∈a₀.toList)
  (mono:∀ i j,i<=j->j<n->bv lt key l y (el xs (b+j))=true->bv lt key l y (el xs (b+i))=true) {Q:Option Nat->SortSt->Prop} (hpq:p<=q) (hq:q<=n)
  (hp':∀ i,i<p->bv lt key l y (el xs (b+i))=true) (hq':∀ i,q<=i->i<n->bv lt key l y (el xs (b+i))=false)
  (h:∀ k,k<=n->(∀ i,i<k->bv lt key l y (el xs (b+i))=true)->(∀ i,k<=i->i<n->bv lt key l y (el xs (b+i))=false)->Q (some k) st):wpS M A E s (bsr l y xs b n p q) Q st:=by
 unfold bsr
 refine wpS_bind (wpS_mono (wpS_forRange (I:=fun x c st'=>st'=st/\∃ p q,c=(none,p,q)/\p<=q/\q<=n/\q-p<=n-x/\(∀ i,i<p->bv lt key l y (el xs (b+i))=true)/\(∀ i,q<=i->i<n->bv lt key l y (el xs (b+i))=false))
  (Q:=fun c st'=>st'=st/\∃ p q,c=(none,p,q)/\q<=n/\(∀ i,i<q->bv lt key l y (el xs (b+i))=true)/\(∀ i,q<=i->i<n->bv lt key l y (el xs (b+i))=false)) ?step ?fin ?init) ?post)
 case init=>exact⟨rfl,p,q,rfl,hpq,hq,by lia,hp',hq'⟩
 case fin=>
  rintro c st' ⟨rfl,p,q,rfl,a1,a2,a3,a4,a5⟩
  have:p=q:=by lia
  subst this
  exact⟨rfl,p,p,rfl,a2,a4,a5⟩
 case post=>
  rintro c st' ⟨rfl,p,q,rfl,a1,a4,a5⟩
  exact wpS_pure (h q a1 a4 a5)
 case step=>
  rintro x c st' _ hx ⟨rfl,p,q,rfl,a1,a2,a3,a4,a5⟩
  dsimp only
  by_cases hge:p>=q
  ·rw[if_pos hge]
   have:p=q:=by lia
   subst this
   exact wpS_pure ⟨rfl,p,p,rfl,a2,a4,a5⟩
  ·rw[if_neg hge]
   have c1:p<=p+(q-p) / 2:=by lia
   have c2:p+(q-p) / 2<q:=by lia
   generalize p+(q-p) / 2=m at c1 c2
   refine wpS_bind (zB e hk hy (by lia) (hm _ (by lia)) ?_)
   dsimp only
   by_cases hb:bv lt key l y (el xs (b+m))=true
   ·rw[if_pos hb]
    exact wpS_pure ⟨rfl,m+1,q,rfl,by lia,a2,by lia,fun i hi=>mono i m (by lia) (by lia) hb,a5⟩
   ·rw[if_neg hb]
    refine wpS_pure ⟨rfl,p,m,rfl,by lia,by lia,by lia,a4,fun i hi hn=>?_⟩
    cases hc:bv lt key l y (el xs (b+i))
    ·rfl
    ·exact absurd (mono m i hi hn hc) hb
theorem mU(e:Env M A s κ key lt a₀){st:SortSt}(hk:kindOf st=κ){l:Bool}{y:Keyed}{xs:Array Keyed}{b n t:Nat}(hy:y∈a₀.toList)(hz:b+n<=xs.size)(hm:∀ i,i<n->el xs (b+i)∈a₀.toList)(ht:t<n)
  (mono:∀ i j,i<=j->j<n->bv lt key l y (el xs (b+j))=true->bv lt key l y (el xs (b+i))=true) {Q:Option Nat->SortSt->Prop}
  (h:∀ k,k<=n->(∀ i,i<k->bv lt key l y (el xs (b+i))=true)->(∀ i,k<=i->i<n->bv lt key l y (el xs (b+i))=false)->Q (some k) st):wpS M A E s (gal l y xs b n t) Q st:=by
 rw[T4]
 refine wpS_bind (zB e hk hy (by omega) (hm t ht) ?_)
 dsimp only
 have dn:∀ i j,i<=j->j<n->bv lt key l y (el xs (b+i))=false->bv lt key l y (el xs (b+j))=false:=fun i j h1 h2 h3=>by
  cases hc:bv lt key l y (el xs (b+j))
  ·rfl
  ·rw[mono i j h1 h2 hc] at h3;cases h3
 by_cases hb:bv lt key l y (el xs (b+t))=true
 ·rw[if_pos hb]
  refine wpS_bind (wpS_mono (wpS_forRange (I:=fun x c st'=>st'=st/\∃ o' o,c=(none,o',o)/\o'<o/\t+o'<n/\x+1<=o/\bv lt key l y (el xs (b+(t+o')))=true)
   (Q:=fun c st'=>st'=st/\∃ o' o,c=(none,o',o)/\o'<o/\t+o'<n/\bv lt key l y (el xs (b+(t+o')))=true/\(o<n-t->bv lt key l y (el xs (b+(t+o)))=false)) ?step ?fin ?init) ?post)
  case init=>exact⟨rfl,0,1,rfl,by omega,by omega,by omega,hb⟩
  case fin=>
   rintro c st' ⟨rfl,o',o,rfl,a1,a2,a3,a4⟩
   exact⟨rfl,o',o,rfl,a1,a2,a4,fun z=>by omega⟩
  case step=>
   rintro x c st' _ hx ⟨rfl,o',o,rfl,a1,a2,a3,a4⟩
   dsimp only
   by_cases hge:o>=n-t
   ·rw[if_pos hge]
    exact wpS_pure ⟨rfl,o',o,rfl,a1,a2,a4,fun z=>by omega⟩
   ·rw[if_neg hge]
    refine wpS_bind (zB e hk hy (by omega) (hm _ (by omega)) ?_)
    dsimp only
    cases hc:bv lt key l y (el xs (b+(t+o)))
    ·rw[if_pos (by rfl)]
     exact wpS_pure ⟨rfl,o',o,rfl,a1,a2,a4,fun _=>hc⟩
    ·rw[if_neg (by decide)]
     exact wpS_pure ⟨rfl,o,2*o+1,rfl,by omega,by omega,by omega,hc⟩
  case post=>
   rintro c st' ⟨rfl,o',o,rfl,a1,a2,a4,a5⟩
   dsimp only
   change wpS M A E s (bsr l y xs b n (t+o'+1) (t+min o (n-t))) Q _
   refine O1 e hk hy hz hm mono (by omega) (by omega) (fun i hi=>mono i (t+o') (by omega) a2 a4) (fun i h1 h2=>?_) h
   exact dn (t+o) i (by omega) h2 (a5 (by omega))
 ·rw[if_neg hb]
  refine wpS_bind (wpS_mono (wpS_forRange (I:=fun x c st'=>st'=st/\∃ o' o,c=(none,o',o)/\o'<o/\o'<=t/\x+1<=o/\bv lt key l y (el xs (b+(t-o')))=false)
   (Q:=fun c st'=>st'=st/\∃ o' o,c=(none,o',o)/\o'<o/\o'<=t/\bv lt key l y (el xs (b+(t-o')))=false/\(o<t+1->bv lt key l y (el xs (b+(t-o)))=true)) ?step ?fin ?init) ?post)
  case init=>exact⟨rfl,0,1,rfl,by omega,by omega,by omega,wj hb⟩
  case fin=>
   rintro c st' ⟨rfl,o',o,rfl,a1,a2,a3,a4⟩
   exact⟨rfl,o',o,rfl,a1,a2,a4,fun z=>by omega⟩
  case step=>
   rintro x c st' _ hx ⟨rfl,o',o,rfl,a1,a2,a3,a4⟩
   dsimp only
   by_cases hge:o>=t+1
   ·rw[if_pos hge]
    exact wpS_pure ⟨rfl,o',o,rfl,a1,a2,a4,fun z=>by omega⟩
   ·rw[if_neg hge]
    refine wpS_bind (zB e hk hy (by omega) (hm _ (by omega)) ?_)
    dsimp only
    cases hc:bv lt key l y (el xs (b+(t-o)))
    ·rw[if_neg (by decide)]
     exact wpS_pure ⟨rfl,o,2*o+1,rfl,by omega,by omega,by omega,hc⟩
    ·rw[if_pos (by rfl)]
     exact wpS_pure ⟨rfl,o',o,rfl,a1,a2,a4,fun _=>hc⟩
  case post=>
   rintro c st' ⟨rfl,o',o,rfl,a1,a2,a4,a5⟩
   dsimp only
   change wpS M A E s (bsr l y xs b n (t+1-min o (t+1)) (t-o')) Q _
   refine O1 e hk hy hz hm mono (by omega) (by omega) (fun i hi=>?_) (fun i h1 h2=>dn (t-o') i h1 h2 a4) h
   exact mono i (t-o) (by omega) (by omega) (a5 (by omega))
end
end TS
end L2
namespace L2
open PySem PySem.Spec PyProof.Rows PySem.W
namespace TS
abbrev bM(st:SortSt)(g:Nat):SortSt:=SortSt.mk' (kindOf st) (arrOf st) (pendingOf st) g (failedOf st)
def mlo:Array Keyed->Array Keyed->StateT SortSt Sem (Array Keyed):=sortPriv% PySem.Builtin.mergeLo
def mhi:Array Keyed->Array Keyed->StateT SortSt Sem (Array Keyed):=sortPriv% PySem.Builtin.mergeHi
theorem TF(a b:Array Keyed):mlo a b=(do
 (rule "list.sort.merge-lo" : Sem Unit)
 let t:=a.size+b.size
 let fin (o:Array Keyed) (i j:Nat):=o++a.extract i a.size++b.extract j b.size
 let nif (o:Array Keyed) (i j:Nat):=o++b.extract j b.size++a.extract i a.size
 let mut o:Array Keyed:=#[<- elem' b 0]
 let mut i:=0
 let mut j:=1
 if j==b.size then return fin o i j
 if i+1==a.size then return nif o i j
 let mut g:=gallopOf (<- get)
 for _ in [0:t] do
  let mut c:=0
  let mut d:=0
  for _ in [0:t] do
   let some w <- lt' (<- elem' b j) (<- elem' a i)|return fin o i j
   if w then
    o:=o.push (<- elem' b j);j:=j+1;d:=d+1;c:=0
    if j==b.size then return fin o i j
    if d>=g then break
   else
    o:=o.push (<- elem' a i);i:=i+1;c:=c+1;d:=0
    if i+1==a.size then return nif o i j
    if c>=g then break
  (rule "list.sort.gallop" : Sem Unit)
  g:=g+1
  for _ in [0:t] do
   if g>1 then g:=g-1
   modify fun s=>bM s g
   let some k <- gal false (<- elem' b j) a i (a.size-i) 0|return fin o i j
   c:=k
   if k>0 then
    o:=o++a.extract i (i+k);i:=i+k
    if i+1==a.size then return nif o i j
    if i==a.size then return fin o i j
   o:=o.push (<- elem' b j);j:=j+1
   if j==b.size then return fin o i j
   let some k <- gal true (<- elem' a i) b j (b.size-j) 0|return fin o i j
   d:=k
   if k>0 then
    o:=o++b.extract j (j+k);j:=j+k
    if j==b.size then return fin o i j
   o:=o.push (<- elem' a i);i:=i+1
   if i+1==a.size then return nif o i j
   if c<7&&d<7 then break
  g:=g+1
  modify fun s=>bM s g
 unsupported "internal:list.sort.merge-bound"):=rfl
theorem Tv(a b:Array Keyed):mhi a b=(do
 (rule "list.sort.merge-hi" : Sem Unit)
 let t:=a.size+b.size
 let fin (o:Array Keyed) (i j:Nat):=a.extract 0 i++b.extract 0 j++o.reverse
 let nif (o:Array Keyed) (i j:Nat):=b.extract 0 j++a.extract 0 i++o.reverse
 let mut i:=a.size-1
 let mut j:=b.size
 let mut o:Array Keyed:=#[<- elem' a i]
 if i==0 then return fin o i j
 if j==1 then return nif o i j
 let mut g:=gallopOf (<- get)
 for _ in [0:t] do
  let mut c:=0
  let mut d:=0
  for _ in [0:t] do
   let some w <- lt' (<- elem' b (j-1)) (<- elem' a (i-1))|return fin o i j
   if w then
    i:=i-1;o:=o.push (<- elem' a i);c:=c+1;d:=0
    if i==0 then return fin o i j
    if c>=g then break
   else
    j:=j-1;o:=o.push (<- elem' b j);d:=d+1;c:=0
    if j==1 then return nif o i j
    if d>=g then break
  (rule "list.sort.gallop" : Sem Unit)
  g:=g+1
  for _ in [0:t] do
   if g>1 then g:=g-1
   modify fun s=>bM s g
   let some p <- gal false (<- elem' b (j-1)) a 0 i (i-1)|return fin o i j
   let k:=i-p
   c:=k
   if k>0 then
    o:=o++(a.extract p i).reverse;i:=p
    if i==0 then return fin o i j
   j:=j-1;o:=o.push (<- elem' b j)
   if j==1 then return nif o i j
   let some p <- gal true (<- elem' a (i-1)) b 0 j (j-1)|return fin o i j
   let k:=j-p
   d:=k
   if k>0 then
    o:=o++(b.extract p j).reverse;j:=p
    if j==1 then return nif o i j
    if j==0 then return fin o i j
   i:=i-1;o:=o.push (<- elem' a i)
   if i==0 then return fin o i j
   if c<7&&d<7 then break
  g:=g+1
  modify fun s=>bM s g
 unsupported "internal:list.sort.merge-bound"):=rfl
section
variable{α:Type}{lt:α->α->Bool}{M:Model}{A:Around}{E:Value->Shared->Prop}{s:Shared}{κ:SortKind}{key:Keyed->α}{a₀:Array Keyed}
structure Mg(R:Keyed->Keyed->Prop)(X Y out x y:List Keyed):Prop where
 perm:(out++(x++y)).Perm (X++Y)
 up:out.Pairwise R
 ab:∀ p∈out,∀ q∈x++y,R p q
 sx:x.Pairwise R
 sy:y.Pairwise R
variable{R:Keyed->Keyed->Prop}{X Y out x y:List Keyed}{p q:Keyed}
theorem Mg.tx(m:Mg R X Y out (p::x) y)(h:∀ q∈y,R p q):Mg R X Y (out++[p]) x y:=by
 obtain⟨h1,h2,h3,h4,h5⟩:=m
 rw[List.pairwise_cons] at h4
 refine⟨by simpa using h1,?_,?_,h4.2,h5⟩
 ·rw[List.pairwise_append]
  refine⟨h2,List.pairwise_singleton _ _,fun a ha b hb=>?_⟩
  rw[List.mem_singleton.mp hb]
  exact h3 a ha p (by simp)
 ·intro a ha b hb
  rcases List.mem_append.mp ha with z|z
  ·exact h3 a z b (by rcases List.mem_append.mp hb with w|w<;>simp[w])
  ·rw[List.mem_singleton.mp z]
   rcases List.mem_append.mp hb with w|w
   ·exact h4.1 b w
   ·exact h b w
theorem Mg.swap(m:Mg R X Y out x y):Mg R Y X out y x:=
 ⟨((List.perm_append_comm (l₁:=y) (l₂:=x)).append_left out).trans (m.perm.trans List.perm_append_comm),m.up,fun a ha b hb=>m.ab a ha b (List.mem_append.mpr (List.mem_append.mp hb).symm),m.sy,m.sx⟩
theorem Mg.ty(m:Mg R X Y out x (q::y))(h:∀ p∈x,R q p):Mg R X Y (out++[q]) x y:=(m.swap.tx h).swap
theorem Mg.cx:∀(c:List Keyed){out:List Keyed},Mg R X Y out (c++x) y->(∀ p∈c,∀ q∈y,R p q)->Mg R X Y (out++c) x y
 |[],out,m,_=>by simpa using m
 |p::c,out,m,h=>by
  have:=Mg.cx c (m.tx (h p List.mem_cons_self)) fun a ha=>h a (List.mem_cons_of_mem _ ha)
  simpa using this
theorem Mg.cy(c:List Keyed)(m:Mg R X Y out x (c++y))(h:∀ p∈c,∀ q∈x,R p q):Mg R X Y (out++c) x y:=(Mg.cx c m.swap h).swap
theorem Mg.VN(m:Mg R X Y out [] y):(out++y).Perm (X++Y)/\(out++y).Pairwise R:=
 ⟨by simpa using m.perm,List.pairwise_append.mpr ⟨m.up,m.sy,fun a ha b hb=>m.ab a ha b (by simpa using hb)⟩⟩
theorem Mg.SQ(m:Mg R X Y out x []):(out++x).Perm (X++Y)/\(out++x).Pairwise R:=
 ⟨by simpa using m.perm,List.pairwise_append.mpr ⟨m.up,m.sx,fun a ha b hb=>m.ab a ha b (by simpa using hb)⟩⟩
theorem Mg.last(m:Mg R X Y out [p] y)(h:∀ q∈y,R q p):(out++y++[p]).Perm (X++Y)/\(out++y++[p]).Pairwise R:=by
 have:=Mg.SQ (Mg.cy (y:=[]) y (by simpa using m) (fun a ha b hb=>by rw[List.mem_singleton.mp hb];exact h a ha))
 exact this
def Le(lt:α->α->Bool)(key:Keyed->α)(p q:Keyed):Prop:=lt (key q) (key p)=false
theorem Le.trans(o:fJ lt){p q r:Keyed}(h:Le lt key p q)(g:Le lt key q r):Le lt key p r:=o.tr _ _ _ h g
theorem Le.of(o:fJ lt){p q:Keyed}(h:lt (key p) (key q)=true):Le lt key p q:=o.sZ _ _ h
theorem jP{a:Array Keyed}{i:Nat}(h:i<a.size):a.toList.drop i=el a i::a.toList.drop (i+1):=by
 rw[List.drop_eq_getElem_cons (by simpa using h)]
 congr 1
 have:=jQ h
 rw[Array.getElem?_eq_getElem h] at this
 simpa using Option.some.inj this
theorem jw{a:Array Keyed}{i:Nat}:(a.extract i a.size).toList=a.toList.drop i:=by
 rw[Array.toList_extract]
 refine List.take_of_length_le ?_
 simp
theorem gR{a:Array Keyed}{i k:Nat}:(a.extract i (i+k)).toList=(a.toList.drop i).take k:=by
 rw[Array.toList_extract,List.extract_eq_take_drop,Nat.add_sub_cancel_left]
theorem nG{a:Array Keyed}{i k:Nat}(h:i+k<=a.size){x:Keyed}(hx:x∈(a.toList.drop i).take k):∃ t,t<k/\x=el a (i+t):=by
 obtain⟨t,ht,e⟩:=List.mem_iff_getElem.mp hx
 rw[List.length_take,List.length_drop,Array.length_toList] at ht
 refine⟨t,by omega,?_⟩
 rw[List.getElem_take,List.getElem_drop] at e
 have:=jQ (xs:=a) (i:=i+t) (by omega)
 rw[Array.getElem?_eq_getElem (by omega)] at this
 rw[<- e]
 simpa using Option.some.inj this
theorem rK{a:Array Keyed}(h:a.toList.Pairwise (Le lt key))(o:fJ lt){i j:Nat}(hij:i<=j)(hj:j<a.size):Le lt key (el a i) (el a j):=by
 by_cases e:i=j
 ·subst e;exact o.refl _
 ·have:=List.pairwise_iff_getElem.mp h i j (by simp;omega) (by simpa using hj) (by omega)
  have e1:=jQ (xs:=a) (i:=i) (by omega)
  have e2:=jQ hj
  rw[Array.getElem?_eq_getElem (by omega)] at e1 e2
  rw[<- Option.some.inj e1,<- Option.some.inj e2]
  simpa using this
theorem mW(o:fJ lt){l:Bool}{y:Keyed}{xs:Array Keyed}{b n:Nat}(h:∀ p q,p<=q->q<n->Le lt key (el xs (b+p)) (el xs (b+q))):∀ i j,i<=j->j<n->bv lt key l y (el xs (b+j))=true->bv lt key l y (el xs (b+i))=true:=by
 intro i j hij hj hb
 have hl:=h i j hij hj
 cases l
 ·unfold bv at hb ⊢
  rw[if_neg Bool.false_ne_true] at hb ⊢
  have h1:Le lt key (el xs (b+j)) y:=by
   unfold Le
   cases hc:lt (key y) (key (el xs (b+j)))
   ·rfl
   ·rw[hc] at hb;cases hb
  have h2:lt (key y) (key (el xs (b+i)))=false:=hl.trans o h1
  rw[h2];rfl
 ·unfold bv at hb ⊢
  rw[if_pos rfl] at hb ⊢
  cases hc:lt (key (el xs (b+i))) (key y)
  ·have h1:Le lt key y (el xs (b+i)):=hc
   have h2:lt (key (el xs (b+j))) (key y)=false:=h1.trans o hl
   rw[h2] at hb;cases hb
  ·rfl
theorem bvF{y x:Keyed}:bv lt key false y x=!lt (key y) (key x):=rfl
theorem bvT{y x:Keyed}:bv lt key true y x=lt (key x) (key y):=rfl
structure Two(lt:α->α->Bool)(key:Keyed->α)(a₀ a b:Array Keyed):Prop where
 ma:∀ x∈a.toList,x∈a₀.toList
 mb:∀ x∈b.toList,x∈a₀.toList
 sa:a.toList.Pairwise (Le lt key)
 sb:b.toList.Pairwise (Le lt key)
 za:1<=a.size
 zb:1<=b.size
 first:lt (key (el b 0)) (key (el a 0))=true
 last:∀ y∈b.toList,Le lt key y (el a (a.size-1))
def Res(lt:α->α->Bool)(key:Keyed->α)(a b r:Array Keyed):Prop:=r.toList.Perm (a.toList++b.toList)/\r.toList.Pairwise (Le lt key)
section lo
variable{a b o:Array Keyed}{i j k:Nat}
abbrev Lo(lt:α->α->Bool)(key:Keyed->α)(a b o:Array Keyed)(i j:Nat):Prop:=Mg (Le lt key) a.toList b.toList o.toList (a.toList.drop i) (b.toList.drop j)
theorem Lo.sV(od:fJ lt)(m:Lo lt key a b o i j)(hi:i<a.size)(hj:j<b.size)(h:lt (key (el b j)) (key (el a i))=true):Lo lt key a b (o.push (el b j)) i (j+1):=by
 unfold Lo at m ⊢
 rw[jP hj] at m
 rw[Array.toList_push]
 refine m.ty fun p hp=>?_
 have sx:=m.sx
 rw[jP hi] at hp sx
 rcases List.mem_cons.mp hp with rfl|z
 ·exact Le.of od h
 ·exact(Le.of od h).trans od ((List.pairwise_cons.mp sx).1 p z)
theorem Lo.mO(od:fJ lt)(m:Lo lt key a b o i j)(hi:i<a.size)(hj:j<b.size)(h:lt (key (el b j)) (key (el a i))=false):Lo lt key a b (o.push (el a i)) (i+1) j:=by
 unfold Lo at m ⊢
 rw[jP hi] at m
 rw[Array.toList_push]
 refine m.tx fun p hp=>?_
 have sy:=m.sy
 rw[jP hj] at hp sy
 have h':Le lt key (el a i) (el b j):=h
 rcases List.mem_cons.mp hp with rfl|z
 ·exact h'
 ·exact h'.trans od ((List.pairwise_cons.mp sy).1 p z)
theorem Lo.CJ(od:fJ lt)(m:Lo lt key a b o i j)(hi:i+k<=a.size)(hj:j<b.size)(h:∀ t,t<k->bv lt key false (el b j) (el a (i+t))=true):Lo lt key a b (o++a.extract i (i+k)) (i+k) j:=by
 unfold Lo at m ⊢
 rw[Array.toList_append,gR]
 rw[<- List.take_append_drop k (a.toList.drop i),List.drop_drop] at m
 refine m.cx _ fun p hp q hq=>?_
 have sy:=m.sy
 rw[jP hj] at hq sy
 obtain⟨t,ht,rfl⟩:=nG hi hp
 have h1:=h t ht
 have h':Le lt key (el a (i+t)) (el b j):=by
  unfold Le
  rw[bvF] at h1
  cases hc:lt (key (el b j)) (key (el a (i+t)))
  ·rfl
  ·rw[hc] at h1;cases h1
 rcases List.mem_cons.mp hq with rfl|z
 ·exact h'
 ·exact h'.trans od ((List.pairwise_cons.mp sy).1 q z)
theorem Lo.uG(od:fJ lt)(m:Lo lt key a b o i j)(hi:i<a.size)(hj:j+k<=b.size)(h:∀ t,t<k->bv lt key true (el a i) (el b (j+t))=true):Lo lt key a b (o++b.extract j (j+k)) i (j+k):=by
 unfold Lo at m ⊢
 rw[Array.toList_append,gR]
 rw[<- List.take_append_drop k (b.toList.drop j),List.drop_drop] at m
 refine m.cy _ fun p hp q hq=>?_
 have sx:=m.sx
 rw[jP hi] at hq sx
 obtain⟨t,ht,rfl⟩:=nG hj hp
 have h':Le lt key (el b (j+t)) (el a i):=Le.of od (by have:=h t ht;rwa[bvT] at this)
 rcases List.mem_cons.mp hq with rfl|z
 ·exact h'
 ·exact h'.trans od ((List.pairwise_cons.mp sx).1 q z)
theorem Lo.yO(m:Lo lt key a b o i j)(hj:j=b.size):Res lt key a b (o++a.extract i a.size++b.extract j b.size):=by
 unfold Lo at m
 unfold Res
 rw[Array.toList_append,Array.toList_append,jw,jw]
 have e:b.toList.drop j=[]:=by rw[hj];simp
 rw[e] at m ⊢
 rw[List.append_nil]
 exact m.SQ
theorem Lo.yN(m:Lo lt key a b o i j)(hi:i=a.size):Res lt key a b (o++a.extract i a.size++b.extract j b.size):=by
 unfold Lo at m
 unfold Res
 rw[Array.toList_append,Array.toList_append,jw,jw]
 have e:a.toList.drop i=[]:=by rw[hi];simp
 rw[e] at m ⊢
 rw[List.append_nil]
 exact m.VN
theorem Lo.nif(t:Two lt key a₀ a b)(m:Lo lt key a b o i j)(hi:i+1=a.size):Res lt key a b (o++b.extract j b.size++a.extract i a.size):=by
 unfold Lo at m
 unfold Res
 rw[Array.toList_append,Array.toList_append,jw,jw]
 have e:a.toList.drop i=[el a i]:=by
  rw[jP (by lia),hi]
  have:a.toList.drop a.size=[]:=by simp
  rw[this]
 rw[e] at m ⊢
 refine m.last fun q hq=>?_
 have:=t.last q (List.mem_of_mem_drop hq)
 rwa[show a.size-1=i by lia] at this
end lo
theorem Vt(e:Env M A s κ key lt a₀){st:SortSt}(hk:kindOf st=κ){a b:Array Keyed}(t:Two lt key a₀ a b){Q:Array Keyed->SortSt->Prop}
  (h:∀ r g,Res lt key a b r->Q r (bM st g)):wpS M A E s (mlo a b) Q st:=by
 rw[TF]
 have ea:∀ i,i<a.size->el a i∈a₀.toList:=fun i hi=>t.ma _ (qL hi)
 have eb:∀ i,i<b.size->el b i∈a₀.toList:=fun i hi=>t.mb _ (qL hi)
 have ma:∀(l:Bool)(y:Keyed)(i:Nat),∀ p q,p<=q->q<a.size-i->bv lt key l y (el a (i+q))=true->bv lt key l y (el a (i+p))=true:=fun l y i=>mW e.o fun p q h1 h2=>rK t.sa e.o (by lia) (by lia)
 have mb:∀(l:Bool)(y:Keyed)(i:Nat),∀ p q,p<=q->q<b.size-i->bv lt key l y (el b (i+q))=true->bv lt key l y (el b (i+p))=true:=fun l y i=>mW e.o fun p q h1 h2=>rK t.sb e.o (by lia) (by lia)
 have za:=t.za
 have zb:=t.zb
 have hkg:∀ g,kindOf (bM st g)=κ:=fun _=>hk
 refine wpS_bind (wpS_lift (wpAny_rule ⟨rfl,?_⟩))
 refine wpS_bind (cI (by lia) ?_)
 have m0:Lo lt key a b #[el b 0] 0 1:=by
  have:Lo lt key a b #[] 0 0:=⟨by simp,List.Pairwise.nil,(fun p hp=>by cases hp),by simpa using t.sa,by simpa using t.sb⟩
  exact this.sV e.o (by lia) (by lia) t.first
 by_cases c1:1=b.size
 ·rw[if_pos (by simpa using c1)]
  exact wpS_pure (h _ (gallopOf st) (m0.yO c1))
 rw[if_neg (by simpa using c1)]
 by_cases c2:0+1=a.size
 ·rw[if_pos (by simpa using c2)]
  exact wpS_pure (h _ (gallopOf st) (m0.nif t c2))
 rw[if_neg (by simpa using c2)]
 refine wpS_bind (wpS_get ?_)
 dsimp only
 refine wpS_bind (wpS_mono (wpS_forRange (I:=fun x c st'=>(∃ g',st'=bM st g')/\∃ o i j g,c=(none,o,i,j,g)/\Lo lt key a b o i j/\i+1<a.size/\j<b.size/\x+1<=i+j)
  (Q:=fun c st'=>(∃ g',st'=bM st g')/\∃ r z,c=(some r,z)/\Res lt key a b r) ?step ?fin ?init) ?post)
 case init=>exact⟨⟨gallopOf st,rfl⟩,_,0,1,_,rfl,m0,by lia,by lia,by lia⟩
 case fin=>
  rintro c st' ⟨_,o,i,j,g,rfl,_,b1,b2,b3⟩
  exfalso;lia
 case post=>
  rintro c st' ⟨⟨g',rfl⟩,r,z,rfl,hr⟩
  exact wpS_pure (h r g' hr)
 case step=>
  rintro x c st' _ hx ⟨⟨g',rfl⟩,o,i,j,g,rfl,m1,b1,b2,b3⟩
  dsimp only
  refine wpS_bind (wpS_mono (wpS_forRange (I:=fun y c st'=>(∃ g',st'=bM st g')/\∃ o i j u v,c=(none,o,i,j,u,v)/\Lo lt key a b o i j/\i+1<a.size/\j<b.size/\x+1+y<=i+j)
   (Q:=fun c st'=>(∃ g',st'=bM st g')/\((∃ r z,c=(some r,z)/\Res lt key a b r)\/∃ o i j u v,c=(none,o,i,j,u,v)/\Lo lt key a b o i j/\i+1<a.size/\j<b.size/\x+2<=i+j)) ?s1 ?f1 ?i1) ?p1)
  case i1=>exact⟨⟨g',rfl⟩,o,i,j,0,0,rfl,m1,b1,b2,by lia⟩
  case f1=>
   rintro c st' ⟨_,o,i,j,u,v,rfl,_,b1,b2,b3⟩
   exfalso;lia
  case s1=>
   rintro y c st' _ hy ⟨⟨g',rfl⟩,o,i,j,u,v,rfl,m2,d1,d2,d3⟩
   dsimp only
   refine wpS_bind (cI (by lia) (wpS_bind (cI (by lia) (wpS_bind (BR e (st:=bM st g') (eb j (by lia)) (ea i (by lia)) hk ?_)))))
   dsimp only
   by_cases hb:lt (key (el b j)) (key (el a i))=true
   ·rw[if_pos hb]
    refine wpS_bind (cI (by lia) ?_)
    have m3:=m2.sV e.o (by lia) (by lia) hb
    by_cases f1:j+1=b.size
    ·rw[if_pos (by simpa using f1)]
     exact wpS_pure ⟨⟨g',rfl⟩,.inl ⟨_,_,rfl,m3.yO f1⟩⟩
    ·rw[if_neg (by simpa using f1)]
     by_cases f2:v+1>=g
     ·rw[if_pos f2]
      exact wpS_pure ⟨⟨g',rfl⟩,.inr ⟨_,_,_,_,_,rfl,m3,d1,by lia,by lia⟩⟩
     ·rw[if_neg f2]
      exact wpS_pure ⟨⟨g',rfl⟩,_,_,_,_,_,rfl,m3,d1,by lia,by lia⟩
   ·rw[if_neg hb]
    refine wpS_bind (cI (by lia) ?_)
    have m3:=m2.mO e.o (by lia) (by lia) (wj hb)
    by_cases f1:i+1+1=a.size
    ·rw[if_pos (by simpa using f1)]
     exact wpS_pure ⟨⟨g',rfl⟩,.inl ⟨_,_,rfl,m3.nif t f1⟩⟩
    ·rw[if_neg (by simpa using f1)]
     by_cases f2:u+1>=g
     ·rw[if_pos f2]
      exact wpS_pure ⟨⟨g',rfl⟩,.inr ⟨_,_,_,_,_,rfl,m3,by lia,by lia,by lia⟩⟩
     ·rw[if_neg f2]
      exact wpS_pure ⟨⟨g',rfl⟩,_,_,_,_,_,rfl,m3,by lia,by lia,by lia⟩
  case p1=>
   rintro c st' ⟨⟨g',rfl⟩,⟨r,z,rfl,hr⟩|⟨o,i,j,u,v,rfl,m2,d1,d2,d3⟩⟩
   ·exact wpS_pure ⟨⟨g',rfl⟩,r,_,rfl,hr⟩
   dsimp only
   refine wpS_bind (wpS_lift (wpAny_rule ⟨rfl,?_⟩))
   refine wpS_bind (wpS_mono (wpS_forRange (I:=fun y c st'=>(∃ g',st'=bM st g')/\∃ o i j g u v,c=(none,o,i,j,g,u,v)/\Lo lt key a b o i j/\i+1<a.size/\j<b.size/\x+2+y<=i+j)
    (Q:=fun c st'=>(∃ g',st'=bM st g')/\((∃ r z,c=(some r,z)/\Res lt key a b r)\/∃ o i j g u v,c=(none,o,i,j,g,u,v)/\Lo lt key a b o i j/\i+1<a.size/\j<b.size/\x+2<=i+j)) ?s2 ?f2 ?i2) ?p2)
   case i2=>exact⟨⟨g',rfl⟩,o,i,j,_,u,v,rfl,m2,d1,d2,by lia⟩
   case f2=>
    rintro c st' ⟨_,o,i,j,g,u,v,rfl,_,b1,b2,b3⟩
    exfalso;lia
   case p2=>
    rintro c st' ⟨⟨g',rfl⟩,⟨r,z,rfl,hr⟩|⟨o,i,j,g,u,v,rfl,m2,d1,d2,d3⟩⟩
    ·exact wpS_pure ⟨⟨g',rfl⟩,r,_,rfl,hr⟩
    ·exact wpS_bind (wpS_modify (wpS_pure ⟨⟨_,rfl⟩,o,i,j,_,rfl,m2,d1,d2,by lia⟩))
   case s2=>
    rintro y c st' _ hy ⟨⟨g',rfl⟩,o,i,j,g,u,v,rfl,m3,d1,d2,d3⟩
    dsimp only
    by_cases hg:g>1
    all_goals first|rw[if_pos hg]|rw[if_neg hg]
    all_goals
     refine wpS_bind (wpS_modify (wpS_bind (cI (by lia) (wpS_bind (mU e (st:=bM st _) (b:=i) (n:=a.size-i) (t:=0) (hkg _) (eb j (by lia)) (by lia) (fun t ht=>ea _ (by lia)) (by lia) (ma _ _ _) ?_)))))
     intro k k1 k2 k3
     dsimp only
     have m4:Lo lt key a b (o++a.extract i (i+k)) (i+k) j:=m3.CJ e.o (by lia) (by lia) k2
     have lb:i+k<a.size->lt (key (el b j)) (key (el a (i+k)))=true:=fun z=>by
      have:=k3 k (Nat.le_refl _) (by lia)
      rw[bvF] at this
      cases hc:lt (key (el b j)) (key (el a (i+k)))
      ·rw[hc] at this;cases this
      ·rfl
     by_cases hk0:k>0
     ·rw[if_pos hk0]
      by_cases f1:i+k+1=a.size
      ·rw[if_pos (by simpa using f1)]
       exact wpS_pure ⟨⟨_,rfl⟩,.inl ⟨_,_,rfl,m4.nif t f1⟩⟩
      rw[if_neg (by simpa using f1)]
      by_cases f2:i+k=a.size
      ·rw[if_pos (by simpa using f2)]
       exact wpS_pure ⟨⟨_,rfl⟩,.inl ⟨_,_,rfl,m4.yN f2⟩⟩
      rw[if_neg (by simpa using f2)]
      have lb':=lb (by lia)
      have d1':i+k+1<a.size:=by lia
      have d3':x+2+y<=i+k+j:=by lia
      clear lb k2 k3
      generalize o++a.extract i (i+k)=o1 at m4 ⊢
      generalize i+k=i1 at m4 lb' d1' d3' ⊢
      clear m3 d1 d3 k1 f1 f2
      refine wpS_bind (cI (by lia) ?_)
      have m5:=m4.sV e.o (by lia) (by lia) lb'
      by_cases f3:j+1=b.size
      ·rw[if_pos (by simpa using f3)]
       exact wpS_pure ⟨⟨_,rfl⟩,.inl ⟨_,_,rfl,m5.yO f3⟩⟩
      rw[if_neg (by simpa using f3)]
      refine wpS_bind (cI (by lia) (wpS_bind (mU e (st:=bM st _) (b:=j+1) (n:=b.size-(j+1)) (t:=0) (hkg _) (ea i1 (by lia)) (by lia) (fun t ht=>eb _ (by lia)) (by lia) (mb _ _ _) ?_)))
      intro l l1 l2 l3
      dsimp only
      have m6:=m5.uG (k:=l) e.o (by lia) (by lia) l2
      have la:j+1+l<b.size->lt (key (el b (j+1+l))) (key (el a i1))=false:=fun z=>by
       have:=l3 l (Nat.le_refl _) (by lia)
       rwa[bvT] at this
      by_cases hl0:l>0
      ·rw[if_pos hl0]
       by_cases f4:j+1+l=b.size
       ·rw[if_pos (by simpa using f4)]
        exact wpS_pure ⟨⟨_,rfl⟩,.inl ⟨_,_,rfl,m6.yO f4⟩⟩
       rw[if_neg (by simpa using f4)]
       refine wpS_bind (cI (by lia) ?_)
       have m7:=m6.mO e.o (by lia) (by lia) (la (by lia))
       by_cases f5:i1+1+1=a.size
       ·rw[if_pos (by simpa using f5)]
        exact wpS_pure ⟨⟨_,rfl⟩,.inl ⟨_,_,rfl,m7.nif t f5⟩⟩
       rw[if_neg (by simpa using f5)]
       split
       ·exact wpS_pure ⟨⟨_,rfl⟩,.inr ⟨_,_,_,_,_,_,rfl,m7,by lia,by lia,by lia⟩⟩
       ·exact wpS_pure ⟨⟨_,rfl⟩,_,_,_,_,_,_,rfl,m7,by lia,by lia,by lia⟩
      ·rw[if_neg hl0]
       have:l=0:=by lia
       subst this
       have la':=la (by lia)
       rw[Nat.add_zero] at la'
       refine wpS_bind (cI (by lia) ?_)
       have m7:=m5.mO e.o (by lia) (by lia) la'
       by_cases f5:i1+1+1=a.size
       ·rw[if_pos (by simpa using f5)]
        exact wpS_pure ⟨⟨_,rfl⟩,.inl ⟨_,_,rfl,m7.nif t f5⟩⟩
       rw[if_neg (by simpa using f5)]
       split
       ·exact wpS_pure ⟨⟨_,rfl⟩,.inr ⟨_,_,_,_,_,_,rfl,m7,by lia,by lia,by lia⟩⟩
       ·exact wpS_pure ⟨⟨_,rfl⟩,_,_,_,_,_,_,rfl,m7,by lia,by lia,by lia⟩
     ·rw[if_neg hk0]
      have:k=0:=by lia
      subst this
      have lb':=lb (by lia)
      rw[Nat.add_zero] at lb'
      refine wpS_bind (cI (by lia) ?_)
      have m5:=m3.sV e.o (by lia) (by lia) lb'
      by_cases f3:j+1=b.size
      ·rw[if_pos (by simpa using f3)]
       exact wpS_pure ⟨⟨_,rfl⟩,.inl ⟨_,_,rfl,m5.yO f3⟩⟩
      rw[if_neg (by simpa using f3)]
      refine wpS_bind (cI (by lia) (wpS_bind (mU e (st:=bM st _) (b:=j+1) (n:=b.size-(j+1)) (t:=0) (hkg _) (ea i (by lia)) (by lia) (fun t ht=>eb _ (by lia)) (by lia) (mb _ _ _) ?_)))
      intro l l1 l2 l3
      dsimp only
      have m6:=m5.uG (k:=l) e.o (by lia) (by lia) l2
      have la:j+1+l<b.size->lt (key (el b (j+1+l))) (key (el a i))=false:=fun z=>by
       have:=l3 l (Nat.le_refl _) (by lia)
       rwa[bvT] at this
      by_cases hl0:l>0
      ·rw[if_pos hl0]
       by_cases f4:j+1+l=b.size
       ·rw[if_pos (by simpa using f4)]
        exact wpS_pure ⟨⟨_,rfl⟩,.inl ⟨_,_,rfl,m6.yO f4⟩⟩
       rw[if_neg (by simpa using f4)]
       refine wpS_bind (cI (by lia) ?_)
       have m7:=m6.mO e.o (by lia) (by lia) (la (by lia))
       by_cases f5:i+1+1=a.size
       ·rw[if_pos (by simpa using f5)]
        exact wpS_pure ⟨⟨_,rfl⟩,.inl ⟨_,_,rfl,m7.nif t f5⟩⟩
       rw[if_neg (by simpa using f5)]
       split
       ·exact wpS_pure ⟨⟨_,rfl⟩,.inr ⟨_,_,_,_,_,_,rfl,m7,by lia,by lia,by lia⟩⟩
       ·exact wpS_pure ⟨⟨_,rfl⟩,_,_,_,_,_,_,rfl,m7,by lia,by lia,by lia⟩
      ·rw[if_neg hl0]
       have:l=0:=by lia
       subst this
       have la':=la (by lia)
       rw[Nat.add_zero] at la'
       refine wpS_bind (cI (by lia) ?_)
       have m7:=m5.mO e.o (by lia) (by lia) la'
       by_cases f5:i+1+1=a.size
       ·rw[if_pos (by simpa using f5)]
        exact wpS_pure ⟨⟨_,rfl⟩,.inl ⟨_,_,rfl,m7.nif t f5⟩⟩
       rw[if_neg (by simpa using f5)]
       split
       ·exact wpS_pure ⟨⟨_,rfl⟩,.inr ⟨_,_,_,_,_,_,rfl,m7,by lia,by lia,by lia⟩⟩
       ·exact wpS_pure ⟨⟨_,rfl⟩,_,_,_,_,_,_,rfl,m7,by lia,by lia,by lia⟩
end
end TS
end L2
namespace L2
open PySem PySem.Spec PyProof.Rows PySem.W
namespace TS
section
variable{α:Type}{lt:α->α->Bool}{M:Model}{A:Around}{E:Value->Shared->Prop}{s:Shared}{κ:SortKind}{key:Keyed->α}{a₀:Array Keyed}
section hi
variable{a b o:Array Keyed}{i j k p:Nat}
theorem jk(h1:1<=i)(h:i<=a.size):(a.toList.take i).reverse=el a (i-1)::(a.toList.take (i-1)).reverse:=by
 obtain⟨n,rfl⟩:∃ n,i=n+1:=⟨i-1,by lia⟩
 rw[Nat.add_sub_cancel,List.take_add_one,List.reverse_append]
 have:=jQ (xs:=a) (i:=n) (by lia)
 have e:a.toList[n]?=some (el a n):=by simpa using this
 rw[e];rfl
abbrev Ge(lt:α->α->Bool)(key:Keyed->α)(p q:Keyed):Prop:=Le lt key q p
abbrev Hi(lt:α->α->Bool)(key:Keyed->α)(a b o:Array Keyed)(i j:Nat):Prop:=Mg (Ge lt key) a.toList.reverse b.toList.reverse o.toList (a.toList.take i).reverse (b.toList.take j).reverse
theorem Hi.mO(od:fJ lt)(m:Hi lt key a b o i j)(h1:1<=i)(hi:i<=a.size)(h2:1<=j)(hj:j<=b.size)(h:lt (key (el b (j-1))) (key (el a (i-1)))=true):Hi lt key a b (o.push (el a (i-1))) (i-1) j:=by
 unfold Hi at m ⊢
 rw[jk h1 hi] at m
 rw[Array.toList_push]
 refine m.tx fun q hq=>?_
 have sy:=m.sy
 rw[jk h2 hj] at hq sy
 rcases List.mem_cons.mp hq with rfl|z
 ·exact Le.of od h
 ·exact Le.trans od ((List.pairwise_cons.mp sy).1 q z) (Le.of od h)
theorem Hi.sV(od:fJ lt)(m:Hi lt key a b o i j)(h1:1<=i)(hi:i<=a.size)(h2:1<=j)(hj:j<=b.size)(h:lt (key (el b (j-1))) (key (el a (i-1)))=false):Hi lt key a b (o.push (el b (j-1))) i (j-1):=by
 unfold Hi at m ⊢
 rw[jk h2 hj] at m
 rw[Array.toList_push]
 refine m.ty fun q hq=>?_
 have sx:=m.sx
 rw[jk h1 hi] at hq sx
 have h':Le lt key (el a (i-1)) (el b (j-1)):=h
 rcases List.mem_cons.mp hq with rfl|z
 ·exact h'
 ·exact Le.trans od ((List.pairwise_cons.mp sx).1 q z) h'
theorem GF(hp:p<=i):(a.toList.take i).reverse=((a.toList.drop p).take (i-p)).reverse++(a.toList.take p).reverse:=by
 rw[<- List.reverse_append]
 congr 1
 have:=List.take_add (l:=a.toList) (i:=p) (j:=i-p)
 rwa[show p+(i-p)=i by lia] at this
theorem Fz(hp:p<=i):((a.extract p i).reverse).toList=((a.toList.drop p).take (i-p)).reverse:=by
 rw[Array.toList_reverse]
 congr 1
 have:=gR (a:=a) (i:=p) (k:=i-p)
 rwa[show p+(i-p)=i by lia] at this
theorem Hi.CJ(od:fJ lt)(m:Hi lt key a b o i j)(hp:p<=i)(hi:i<=a.size)(h2:1<=j)(hj:j<=b.size)(h:∀ t,p<=t->t<i->bv lt key false (el b (j-1)) (el a t)=false):Hi lt key a b (o++(a.extract p i).reverse) p j:=by
 unfold Hi at m ⊢
 rw[Array.toList_append,Fz hp]
 rw[GF hp] at m
 refine m.cx _ fun u hu q hq=>?_
 have sy:=m.sy
 rw[jk h2 hj] at hq sy
 obtain⟨t,ht,rfl⟩:=nG (by lia) (List.mem_reverse.mp hu)
 have h1:=h (p+t) (by lia) (by lia)
 have h':Le lt key (el b (j-1)) (el a (p+t)):=by
  rw[bvF] at h1
  cases hc:lt (key (el b (j-1))) (key (el a (p+t)))
  ·rw[hc] at h1;cases h1
  ·exact Le.of od hc
 rcases List.mem_cons.mp hq with rfl|z
 ·exact h'
 ·exact Le.trans od ((List.pairwise_cons.mp sy).1 q z) h'
theorem Hi.uG(od:fJ lt)(m:Hi lt key a b o i j)(hp:p<=j)(hj:j<=b.size)(h1:1<=i)(hi:i<=a.size)(h:∀ t,p<=t->t<j->bv lt key true (el a (i-1)) (el b t)=false):Hi lt key a b (o++(b.extract p j).reverse) i p:=by
 unfold Hi at m ⊢
 rw[Array.toList_append,Fz hp]
 rw[GF hp] at m
 refine m.cy _ fun u hu q hq=>?_
 have sx:=m.sx
 rw[jk h1 hi] at hq sx
 obtain⟨t,ht,rfl⟩:=nG (by lia) (List.mem_reverse.mp hu)
 have h':Le lt key (el a (i-1)) (el b (p+t)):=by
  have:=h (p+t) (by lia) (by lia)
  rwa[bvT] at this
 rcases List.mem_cons.mp hq with rfl|z
 ·exact h'
 ·exact Le.trans od ((List.pairwise_cons.mp sx).1 q z) h'
theorem z7{l:List Keyed}{r:Array Keyed}(e:r.toList=l.reverse)(h:l.Perm (a.toList.reverse++b.toList.reverse)/\l.Pairwise (Ge lt key)):Res lt key a b r:=by
 unfold Res
 rw[e]
 refine⟨(List.reverse_perm l).trans (h.1.trans ((List.reverse_perm _).append (List.reverse_perm _))),List.pairwise_reverse.mpr h.2⟩
theorem HS:(a.extract 0 i).toList=a.toList.take i:=by
 have:=gR (a:=a) (i:=0) (k:=i)
 rwa[Nat.zero_add,List.drop_zero] at this
theorem Hi.yN(m:Hi lt key a b o i j)(hi:i=0):Res lt key a b (a.extract 0 i++b.extract 0 j++o.reverse):=by
 unfold Hi at m
 have e:(a.toList.take i).reverse=[]:=by rw[hi];rfl
 rw[e] at m
 refine z7 ?_ m.VN
 rw[Array.toList_append,Array.toList_append,HS,HS,Array.toList_reverse,hi]
 simp
theorem Hi.yO(m:Hi lt key a b o i j)(hj:j=0):Res lt key a b (a.extract 0 i++b.extract 0 j++o.reverse):=by
 unfold Hi at m
 have e:(b.toList.take j).reverse=[]:=by rw[hj];rfl
 rw[e] at m
 refine z7 ?_ m.SQ
 rw[Array.toList_append,Array.toList_append,HS,HS,Array.toList_reverse,hj]
 simp
theorem Hi.nif(od:fJ lt)(t:Two lt key a₀ a b)(m:Hi lt key a b o i j)(hj:j=1):Res lt key a b (b.extract 0 j++a.extract 0 i++o.reverse):=by
 unfold Hi at m
 have zb:=t.zb
 have e:(b.toList.take j).reverse=[el b 0]:=by rw[hj,jk (Nat.le_refl _) zb];simp
 rw[e] at m
 have:=m.swap.last fun q hq=>show Le lt key (el b 0) q from by
  obtain⟨n,hn,rfl⟩:=List.mem_iff_getElem.mp (List.mem_of_mem_take (List.mem_reverse.mp hq))
  have hn':n<a.size:=by simpa using hn
  have e1:=jQ hn'
  rw[Array.getElem?_eq_getElem hn'] at e1
  rw[Array.getElem_toList,Option.some.inj e1]
  exact Le.trans od (Le.of od t.first) (rK t.sa od (Nat.zero_le _) hn')
 refine z7 ?_ ⟨this.1.trans List.perm_append_comm,this.2⟩
 rw[Array.toList_append,Array.toList_append,HS,HS,Array.toList_reverse]
 have e2:b.toList.take j=[el b 0]:=by
  have:=congrArg List.reverse e
  simpa using this
 rw[e2]
 simp
end hi
theorem Vs(e:Env M A s κ key lt a₀){st:SortSt}(hk:kindOf st=κ){a b:Array Keyed}(t:Two lt key a₀ a b){Q:Array Keyed->SortSt->Prop}
  (h:∀ r g,Res lt key a b r->Q r (bM st g)):wpS M A E s (mhi a b) Q st:=by
 rw[Tv]
 have ea:∀ i,i<a.size->el a i∈a₀.toList:=fun i hi=>t.ma _ (qL hi)
 have eb:∀ i,i<b.size->el b i∈a₀.toList:=fun i hi=>t.mb _ (qL hi)
 have ma:∀(l:Bool)(y:Keyed)(n:Nat),n<=a.size->∀ p q,p<=q->q<n->bv lt key l y (el a (0+q))=true->bv lt key l y (el a (0+p))=true:=fun l y n hn=>mW e.o fun p q h1 h2=>rK t.sa e.o (by omega) (by omega)
 have mb:∀(l:Bool)(y:Keyed)(n:Nat),n<=b.size->∀ p q,p<=q->q<n->bv lt key l y (el b (0+q))=true->bv lt key l y (el b (0+p))=true:=fun l y n hn=>mW e.o fun p q h1 h2=>rK t.sb e.o (by omega) (by omega)
 have za:=t.za
 have zb:=t.zb
 have hkg:∀ g,kindOf (bM st g)=κ:=fun _=>hk
 refine wpS_bind (wpS_lift (wpAny_rule ⟨rfl,?_⟩))
 refine wpS_bind (cI (by omega) ?_)
 have m0:Hi lt key a b #[el a (a.size-1)] (a.size-1) b.size:=by
  have:Hi lt key a b #[] a.size b.size:=by
   refine⟨?_,List.Pairwise.nil,(fun p hp=>by cases hp),?_,?_⟩
   ·rw[List.take_of_length_le (by simp),List.take_of_length_le (by simp)];exact .refl _
   ·rw[List.take_of_length_le (by simp)];exact List.pairwise_reverse.mpr t.sa
   ·rw[List.take_of_length_le (by simp)];exact List.pairwise_reverse.mpr t.sb
  unfold Hi at this ⊢
  rw[jk za (Nat.le_refl _)] at this
  refine this.tx fun q hq=>t.last q ?_
  exact List.mem_of_mem_take (List.mem_reverse.mp hq)
 by_cases c1:a.size-1=0
 ·rw[if_pos (by simpa using c1)]
  exact wpS_pure (h _ (gallopOf st) (m0.yN c1))
 rw[if_neg (by simpa using c1)]
 by_cases c2:b.size=1
 ·rw[if_pos (by simpa using c2)]
  exact wpS_pure (h _ (gallopOf st) (m0.nif e.o t c2))
 rw[if_neg (by simpa using c2)]
 refine wpS_bind (wpS_get ?_)
 dsimp only
 refine wpS_bind (wpS_mono (wpS_forRange (I:=fun x c st'=>(∃ g',st'=bM st g')/\∃ o i j g,c=(none,i,j,o,g)/\Hi lt key a b o i j/\(1<=i/\i<=a.size/\2<=j/\j<=b.size)/\i+j+x+1<=a.size+b.size)
  (Q:=fun c st'=>(∃ g',st'=bM st g')/\∃ r z,c=(some r,z)/\Res lt key a b r) ?step ?fin ?init) ?post)
 case init=>exact⟨⟨gallopOf st,rfl⟩,_,_,_,_,rfl,m0,by omega,by omega⟩
 case fin=>
  rintro c st' ⟨_,o,i,j,g,rfl,_,b1,b3⟩
  exfalso;omega
 case post=>
  rintro c st' ⟨⟨g',rfl⟩,r,z,rfl,hr⟩
  exact wpS_pure (h r g' hr)
 case step=>
  rintro x c st' _ hx ⟨⟨g',rfl⟩,o,i,j,g,rfl,m1,b1,b3⟩
  dsimp only
  refine wpS_bind (wpS_mono (wpS_forRange (I:=fun y c st'=>(∃ g',st'=bM st g')/\∃ o i j u v,c=(none,i,j,o,u,v)/\Hi lt key a b o i j/\(1<=i/\i<=a.size/\2<=j/\j<=b.size)/\i+j+x+1+y<=a.size+b.size)
   (Q:=fun c st'=>(∃ g',st'=bM st g')/\((∃ r z,c=(some r,z)/\Res lt key a b r)\/∃ o i j u v,c=(none,i,j,o,u,v)/\Hi lt key a b o i j/\(1<=i/\i<=a.size/\2<=j/\j<=b.size)/\i+j+x+2<=a.size+b.size)) ?s1 ?f1 ?i1) ?p1)
  case i1=>exact⟨⟨g',rfl⟩,o,i,j,0,0,rfl,m1,b1,by omega⟩
  case f1=>
   rintro c st' ⟨_,o,i,j,u,v,rfl,_,b1,b3⟩
   exfalso;omega
  case s1=>
   rintro y c st' _ hy ⟨⟨g',rfl⟩,o,i,j,u,v,rfl,m2,d1,d3⟩
   dsimp only
   refine wpS_bind (cI (by omega) (wpS_bind (cI (by omega) (wpS_bind (BR e (st:=bM st g') (eb (j-1) (by omega)) (ea (i-1) (by omega)) hk ?_)))))
   dsimp only
   by_cases hb:lt (key (el b (j-1))) (key (el a (i-1)))=true
   ·rw[if_pos hb]
    refine wpS_bind (cI (by omega) ?_)
    have m3:=m2.mO e.o (by omega) (by omega) (by omega) (by omega) hb
    by_cases f1:i-1=0
    ·rw[if_pos (by simpa using f1)]
     exact wpS_pure ⟨⟨g',rfl⟩,.inl ⟨_,_,rfl,m3.yN f1⟩⟩
    ·rw[if_neg (by simpa using f1)]
     by_cases f2:u+1>=g
     ·rw[if_pos f2]
      exact wpS_pure ⟨⟨g',rfl⟩,.inr ⟨_,_,_,_,_,rfl,m3,by omega,by omega⟩⟩
     ·rw[if_neg f2]
      exact wpS_pure ⟨⟨g',rfl⟩,_,_,_,_,_,rfl,m3,by omega,by omega⟩
   ·rw[if_neg hb]
    refine wpS_bind (cI (by omega) ?_)
    have m3:=m2.sV e.o (by omega) (by omega) (by omega) (by omega) (wj hb)
    by_cases f1:j-1=1
    ·rw[if_pos (by simpa using f1)]
     exact wpS_pure ⟨⟨g',rfl⟩,.inl ⟨_,_,rfl,m3.nif e.o t f1⟩⟩
    ·rw[if_neg (by simpa using f1)]
     by_cases f2:v+1>=g
     ·rw[if_pos f2]
      exact wpS_pure ⟨⟨g',rfl⟩,.inr ⟨_,_,_,_,_,rfl,m3,by omega,by omega⟩⟩
     ·rw[if_neg f2]
      exact wpS_pure ⟨⟨g',rfl⟩,_,_,_,_,_,rfl,m3,by omega,by omega⟩
  case p1=>
   rintro c st' ⟨⟨g',rfl⟩,⟨r,z,rfl,hr⟩|⟨o,i,j,u,v,rfl,m2,d1,d3⟩⟩
   ·exact wpS_pure ⟨⟨g',rfl⟩,r,_,rfl,hr⟩
   dsimp only
   refine wpS_bind (wpS_lift (wpAny_rule ⟨rfl,?_⟩))
   refine wpS_bind (wpS_mono (wpS_forRange (I:=fun y c st'=>(∃ g',st'=bM st g')/\∃ o i j g u v,c=(none,i,j,o,g,u,v)/\Hi lt key a b o i j/\(1<=i/\i<=a.size/\2<=j/\j<=b.size)/\i+j+x+2+y<=a.size+b.size)
    (Q:=fun c st'=>(∃ g',st'=bM st g')/\((∃ r z,c=(some r,z)/\Res lt key a b r)\/∃ o i j g u v,c=(none,i,j,o,g,u,v)/\Hi lt key a b o i j/\(1<=i/\i<=a.size/\2<=j/\j<=b.size)/\i+j+x+2<=a.size+b.size)) ?s2 ?f2 ?i2) ?p2)
   case i2=>exact⟨⟨g',rfl⟩,o,i,j,_,u,v,rfl,m2,d1,by omega⟩
   case f2=>
    rintro c st' ⟨_,o,i,j,g,u,v,rfl,_,b1,b3⟩
    exfalso;omega
   case p2=>
    rintro c st' ⟨⟨g',rfl⟩,⟨r,z,rfl,hr⟩|⟨o,i,j,g,u,v,rfl,m2,d1,d3⟩⟩
    ·exact wpS_pure ⟨⟨g',rfl⟩,r,_,rfl,hr⟩
    ·exact wpS_bind (wpS_modify (wpS_pure ⟨⟨_,rfl⟩,o,i,j,_,rfl,m2,d1,by omega⟩))
   case s2=>
    rintro y c st' _ hy ⟨⟨g',rfl⟩,o,i,j,g,u,v,rfl,m3,d1,d3⟩
    dsimp only
    by_cases hg:g>1
    all_goals first|rw[if_pos hg]|rw[if_neg hg]
    all_goals
     refine wpS_bind (wpS_modify (wpS_bind (cI (by omega) (wpS_bind (mU e (st:=bM st _) (b:=0) (n:=i) (t:=i-1) (hkg _) (eb (j-1) (by omega)) (by omega) (fun t ht=>ea _ (by omega)) (by omega) (ma _ _ _ (by omega)) ?_)))))
     intro k k1 k2 k3
     dsimp only
     have m4:=m3.CJ (p:=k) e.o k1 (by omega) (by omega) (by omega) (fun t t1 t2=>by have:=k3 t t1 t2;rwa[Nat.zero_add] at this)
     have lb:1<=k->lt (key (el b (j-1))) (key (el a (k-1)))=false:=fun z=>by
      have:=k2 (k-1) (by omega)
      rw[bvF,Nat.zero_add] at this
      cases hc:lt (key (el b (j-1))) (key (el a (k-1)))
      ·rfl
      ·rw[hc] at this;cases this
     by_cases hk0:i-k>0
     ·rw[if_pos hk0]
      by_cases f1:k=0
      ·rw[if_pos (by simpa using f1)]
       exact wpS_pure ⟨⟨_,rfl⟩,.inl ⟨_,_,rfl,m4.yN f1⟩⟩
      rw[if_neg (by simpa using f1)]
      have lb':=lb (by omega)
      generalize o++(a.extract k i).reverse=o1 at m4 ⊢
      refine wpS_bind (cI (by omega) ?_)
      have m5:=m4.sV e.o (by omega) (by omega) (by omega) (by omega) lb'
      by_cases f3:j-1=1
      ·rw[if_pos (by simpa using f3)]
       exact wpS_pure ⟨⟨_,rfl⟩,.inl ⟨_,_,rfl,m5.nif e.o t f3⟩⟩
      rw[if_neg (by simpa using f3)]
      refine wpS_bind (cI (by omega) (wpS_bind (mU e (st:=bM st _) (b:=0) (n:=j-1) (t:=j-1-1) (hkg _) (ea (k-1) (by omega)) (by omega) (fun t ht=>eb _ (by omega)) (by omega) (mb _ _ _ (by omega)) ?_)))
      intro l l1 l2 l3
      dsimp only
      have m6:=m5.uG (p:=l) e.o (by omega) (by omega) (by omega) (by omega) (fun t t1 t2=>by have:=l3 t t1 t2;rwa[Nat.zero_add] at this)
      have la:1<=l->lt (key (el b (l-1))) (key (el a (k-1)))=true:=fun z=>by
       have:=l2 (l-1) (by omega)
       rw[bvT,Nat.zero_add] at this
       exact this
      by_cases hl0:j-1-l>0
      ·rw[if_pos hl0]
       by_cases f4:l=1
       ·rw[if_pos (by simpa using f4)]
        exact wpS_pure ⟨⟨_,rfl⟩,.inl ⟨_,_,rfl,m6.nif e.o t f4⟩⟩
       rw[if_neg (by simpa using f4)]
       by_cases f7:l=0
       ·rw[if_pos (by simpa using f7)]
        exact wpS_pure ⟨⟨_,rfl⟩,.inl ⟨_,_,rfl,m6.yO f7⟩⟩
       rw[if_neg (by simpa using f7)]
       refine wpS_bind (cI (by omega) ?_)
       have m7:=m6.mO e.o (by omega) (by omega) (by omega) (by omega) (la (by omega))
       by_cases f5:k-1=0
       ·rw[if_pos (by simpa using f5)]
        exact wpS_pure ⟨⟨_,rfl⟩,.inl ⟨_,_,rfl,m7.yN f5⟩⟩
       rw[if_neg (by simpa using f5)]
       split
       ·exact wpS_pure ⟨⟨_,rfl⟩,.inr ⟨_,_,_,_,_,_,rfl,m7,by omega,by omega⟩⟩
       ·exact wpS_pure ⟨⟨_,rfl⟩,_,_,_,_,_,_,rfl,m7,by omega,by omega⟩
      ·rw[if_neg hl0]
       have:l=j-1:=by omega
       subst this
       have la':=la (by omega)
       refine wpS_bind (cI (by omega) ?_)
       have m7:=m5.mO e.o (by omega) (by omega) (by omega) (by omega) la'
       by_cases f5:k-1=0
       ·rw[if_pos (by simpa using f5)]
        exact wpS_pure ⟨⟨_,rfl⟩,.inl ⟨_,_,rfl,m7.yN f5⟩⟩
       rw[if_neg (by simpa using f5)]
       split
       ·exact wpS_pure ⟨⟨_,rfl⟩,.inr ⟨_,_,_,_,_,_,rfl,m7,by omega,by omega⟩⟩
       ·exact wpS_pure ⟨⟨_,rfl⟩,_,_,_,_,_,_,rfl,m7,by omega,by omega⟩
     ·rw[if_neg hk0]
      have:k=i:=by omega
      subst this
      have lb':=lb (by omega)
      refine wpS_bind (cI (by omega) ?_)
      have m5:=m3.sV e.o (by omega) (by omega) (by omega) (by omega) lb'
      by_cases f3:j-1=1
      ·rw[if_pos (by simpa using f3)]
       exact wpS_pure ⟨⟨_,rfl⟩,.inl ⟨_,_,rfl,m5.nif e.o t f3⟩⟩
      rw[if_neg (by simpa using f3)]
      refine wpS_bind (cI (by omega) (wpS_bind (mU e (st:=bM st _) (b:=0) (n:=j-1) (t:=j-1-1) (hkg _) (ea (k-1) (by omega)) (by omega) (fun t ht=>eb _ (by omega)) (by omega) (mb _ _ _ (by omega)) ?_)))
      intro l l1 l2 l3
      dsimp only
      have m6:=m5.uG (p:=l) e.o (by omega) (by omega) (by omega) (by omega) (fun t t1 t2=>by have:=l3 t t1 t2;rwa[Nat.zero_add] at this)
      have la:1<=l->lt (key (el b (l-1))) (key (el a (k-1)))=true:=fun z=>by
       have:=l2 (l-1) (by omega)
       rw[bvT,Nat.zero_add] at this
       exact this
      by_cases hl0:j-1-l>0
      ·rw[if_pos hl0]
       by_cases f4:l=1
       ·rw[if_pos (by simpa using f4)]
        exact wpS_pure ⟨⟨_,rfl⟩,.inl ⟨_,_,rfl,m6.nif e.o t f4⟩⟩
       rw[if_neg (by simpa using f4)]
       by_cases f7:l=0
       ·rw[if_pos (by simpa using f7)]
        exact wpS_pure ⟨⟨_,rfl⟩,.inl ⟨_,_,rfl,m6.yO f7⟩⟩
       rw[if_neg (by simpa using f7)]
       refine wpS_bind (cI (by omega) ?_)
       have m7:=m6.mO e.o (by omega) (by omega) (by omega) (by omega) (la (by omega))
       by_cases f5:k-1=0
       ·rw[if_pos (by simpa using f5)]
        exact wpS_pure ⟨⟨_,rfl⟩,.inl ⟨_,_,rfl,m7.yN f5⟩⟩
       rw[if_neg (by simpa using f5)]
       split
       ·exact wpS_pure ⟨⟨_,rfl⟩,.inr ⟨_,_,_,_,_,_,rfl,m7,by omega,by omega⟩⟩
       ·exact wpS_pure ⟨⟨_,rfl⟩,_,_,_,_,_,_,rfl,m7,by omega,by omega⟩
      ·rw[if_neg hl0]
       have:l=j-1:=by omega
       subst this
       have la':=la (by omega)
       refine wpS_bind (cI (by omega) ?_)
       have m7:=m5.mO e.o (by omega) (by omega) (by omega) (by omega) la'
       by_cases f5:k-1=0
       ·rw[if_pos (by simpa using f5)]
        exact wpS_pure ⟨⟨_,rfl⟩,.inl ⟨_,_,rfl,m7.yN f5⟩⟩
       rw[if_neg (by simpa using f5)]
       split
       ·exact wpS_pure ⟨⟨_,rfl⟩,.inr ⟨_,_,_,_,_,_,rfl,m7,by omega,by omega⟩⟩
       ·exact wpS_pure ⟨⟨_,rfl⟩,_,_,_,_,_,_,rfl,m7,by omega,by omega⟩
end
end TS
end L2
namespace L2
open PySem PySem.Spec PyProof.Rows PySem.W
namespace TS
theorem Dv(i:Nat):mergeAt' i=(do
 let c <- get
 let (some (p,n,w),some (q,m,_)):=((pendingOf c)[i]?,(pendingOf c)[i+1]?)|unsupported "internal:list.sort.pending"
 set (setPending c (((pendingOf c).setIfInBounds i (p,n+m,w)).eraseIdxIfInBounds (i+1)))
 let some k <- gal false (<- elem' (arrOf c) q) (arrOf c) p n 0|return false
 let (p,n):=(p+k,n-k)
 if n==0 then return true
 let some m <- gal true (<- elem' (arrOf c) (p+n-1)) (arrOf c) q m (m-1)|return false
 if m==0 then return true
 let x:=(arrOf c).extract p q
 let y:=(arrOf c).extract q (q+m)
 let r <- if n<=m then mlo x y else mhi x y
 modify fun c=>setArr c (r.toList.zipIdx.foldl (fun a (v,j)=>a.setIfInBounds (p+j) v) (arrOf c))
 return (failedOf (<- get)).isNone):=rfl
theorem bf{β:Type}(p:Nat):∀(l:List β)(n:Nat)(xs:Array β),p+n+l.length<=xs.size ->
  ((l.zipIdx n).foldl (fun a (x:β×Nat)=>a.setIfInBounds (p+x.2) x.1) xs).toList=xs.toList.take (p+n)++l++xs.toList.drop (p+n+l.length)
 |[],n,xs,h=>by simp
 |v::l,n,xs,h=>by
  rw[List.zipIdx_cons,List.foldl_cons]
  have hl:p+n+(l.length+1)<=xs.size:=h
  rw[bf p l (n+1) _ (by rw[Array.size_setIfInBounds];lia)]
  dsimp only
  rw[Array.toList_setIfInBounds]
  have e1:(xs.toList.set (p+n) v).take (p+(n+1))=xs.toList.take (p+n)++[v]:=by
   rw[<- Nat.add_assoc,List.take_add_one,List.take_set_of_le (Nat.le_refl _),List.getElem?_set_self (by simp;lia)]
   rfl
  have e2:(xs.toList.set (p+n) v).drop (p+(n+1)+l.length)=xs.toList.drop (p+n+(v::l).length):=by
   rw[List.drop_set_of_lt (by lia)]
   congr 1
   simp;lia
  rw[e1,e2]
  simp
def over(xs:Array Keyed)(p:Nat)(r:Array Keyed):Array Keyed:=r.toList.zipIdx.foldl (fun a (x:Keyed×Nat)=>a.setIfInBounds (p+x.2) x.1) xs
theorem sO{xs r:Array Keyed}{p:Nat}(h:p+r.size<=xs.size):(over xs p r).toList=xs.toList.take p++r.toList++xs.toList.drop (p+r.size):=by
 have:=bf p r.toList 0 xs (by simpa using h)
 simpa [over] using this
theorem tO{xs:Array Keyed}{i:Nat}:el xs i=xs.toList.getD i (Value.none,Value.none):=by
 unfold el
 rw[Array.getD_eq_getD_getElem?,List.getD_eq_getElem?_getD,Array.getElem?_toList]
theorem yL{xs r:Array Keyed}{p k:Nat}(h:p+r.size<=xs.size):el (over xs p r) k=if p<=k/\k<p+r.size then el r (k-p) else el xs k:=by
 rw[tO,sO h,tO,tO]
 simp only[List.getD_eq_getElem?_getD]
 have lt1:(xs.toList.take p).length=p:=by simp;lia
 by_cases h1:k<p
 ·rw[if_neg (by lia),List.append_assoc,List.getElem?_append_left (by lia),List.getElem?_take_of_lt h1]
 ·by_cases h2:k<p+r.size
  ·rw[if_pos (by lia),List.append_assoc,List.getElem?_append_right (by lia),lt1,List.getElem?_append_left (by simp;lia)]
  ·rw[if_neg (by lia),List.getElem?_append_right (by simp;lia)]
   congr 1
   rw[List.length_append,lt1,List.getElem?_drop,Array.length_toList]
   congr 1
   lia
theorem IW{xs r:Array Keyed}{p:Nat}(h:p+r.size<=xs.size)(hr:r.toList.Perm ((xs.toList.drop p).take r.size)):(over xs p r).Perm xs:=by
 rw[Array.perm_iff_toList_perm,sO h]
 have e:xs.toList=xs.toList.take p++(xs.toList.drop p).take r.size++xs.toList.drop (p+r.size):=by
  rw[<- List.drop_drop,List.append_assoc,List.take_append_drop,List.take_append_drop]
 conv=>rhs;rw[e]
 exact((hr.append_left _).append_right _)
theorem K9{xs:Array Keyed}{i j t:Nat}(hj:j<=xs.size)(ht:t<j-i):el (xs.extract i j) t=el xs (i+t):=by
 refine ju ?_
 rw[Array.getElem?_extract,if_pos (by lia)]
section
variable{α:Type}{lt:α->α->Bool}{M:Model}{A:Around}{E:Value->Shared->Prop}{s:Shared}{κ:SortKind}{key:Keyed->α}{a₀:Array Keyed}
theorem pw_of{a:Array Keyed}(h:∀ i j,i<j->j<a.size->Le lt key (el a i) (el a j)):a.toList.Pairwise (Le lt key):=by
 rw[List.pairwise_iff_getElem]
 intro i j hi hj hij
 have hj':j<a.size:=by simpa using hj
 have e1:=jQ (xs:=a) (i:=i) (by omega)
 have e2:=jQ hj'
 rw[Array.getElem?_eq_getElem (by omega)] at e1 e2
 rw[Array.getElem_toList,Array.getElem_toList,Option.some.inj e1,Option.some.inj e2]
 exact h i j hij hj'
theorem Vu{σ:Type}{x:σ}{Q:PUnit->σ->Prop}{st:σ}(h:Q ⟨⟩ x):wpS M A E s (set x:StateT σ Sem PUnit) Q st:=by
 unfold wpS;rw[StateT.run_set];exact wpAny_pure ⟨rfl,h⟩
theorem Xm(e:Env M A s κ key lt a₀){st:SortSt}(hk:kindOf st=κ)(hf:failedOf st=none)(hp:(arrOf st).Perm a₀){i p n w q m w':Nat}{L1 L2:List (Nat×Nat×Nat)}
  (hL:(pendingOf st).toList=L1++(p,n,w)::(q,m,w')::L2) (hi:L1.length=i) (hq:q=p+n) (hn:1<=n) (hm:1<=m) (hz:q+m<=a₀.size) (s1:Srt lt key (arrOf st) p (p+n)) (s2:Srt lt key (arrOf st) q (q+m)) {Q:Bool->SortSt->Prop}
  (h:∀ xs g,xs.Perm a₀->(∀ k,k<p\/q+m<=k->el xs k=el (arrOf st) k)->Srt lt key xs p (q+m)->Q true (SortSt.mk' (kindOf st) xs (L1++(p,n+m,w)::L2).toArray g (failedOf st))):wpS M A E s (mergeAt' i) Q st:=by
 rw[Dv]
 have sz:(arrOf st).size=a₀.size:=hp.size_eq
 have g1:(pendingOf st)[i]?=some (p,n,w):=by
  rw[<- Array.getElem?_toList,hL,List.getElem?_append_right (by lia),hi,Nat.sub_self];rfl
 have g2:(pendingOf st)[i+1]?=some (q,m,w'):=by
  rw[<- Array.getElem?_toList,hL,List.getElem?_append_right (by lia),hi,show i+1-i=1 by lia];rfl
 refine wpS_bind (wpS_get ?_)
 rw[g1,g2]
 have ep:((pendingOf st).setIfInBounds i (p,n+m,w)).eraseIdxIfInBounds (i+1)=(L1++(p,n+m,w)::L2).toArray:=by
  apply Array.toList_inj.mp
  rw[Array.toList_eraseIdxIfInBounds,Array.toList_setIfInBounds,hL]
  rw[List.set_append_right _ _ (by lia),hi,Nat.sub_self,List.eraseIdx_append_of_length_le (by lia),hi,show i+1-i=1 by lia]
  rfl
 refine wpS_bind (Vu ?_)
 rw[ep]
 have hkp:∀ P,kindOf (setPending st P)=κ:=fun _=>hk
 have ea:∀ t,t<a₀.size->el (arrOf st) t∈a₀.toList:=fun t ht=>vD hp ht
 refine wpS_bind (cI (by lia) (wpS_bind (mU e (st:=setPending st _) (b:=p) (n:=n) (t:=0) (hkp _) (ea q (by lia)) (by lia) (fun t ht=>ea _ (by lia)) (by lia) (mW e.o fun u v h1 h2=>s1 _ _ (by lia) (by lia) (by lia)) ?_)))
 intro k k1 k2 k3
 dsimp only
 have cut:∀ t,p<=t->t<p+k->Le lt key (el (arrOf st) t) (el (arrOf st) q):=fun t t1 t2=>by
  have:=k2 (t-p) (by lia)
  rw[bvF,show p+(t-p)=t by lia] at this
  unfold Le
  cases hc:lt (key (el (arrOf st) q)) (key (el (arrOf st) t))
  ·rfl
  ·rw[hc] at this;cases this
 by_cases c1:n-k=0
 ·rw[if_pos (by simpa using c1)]
  refine wpS_pure (h (arrOf st) (gallopOf st) hp (fun _ _=>rfl) fun u v h1 h2 h3=>?_)
  by_cases hv:v<p+n
  ·exact s1 u v h1 h2 hv
  ·by_cases hu:u<q
   ·exact Le.trans e.o (cut u h1 (by lia)) (s2 q v (Nat.le_refl _) (by lia) h3)
   ·exact s2 u v (by lia) h2 h3
 rw[if_neg (by simpa using c1)]
 have el1:p+k+(n-k)-1=q-1:=by lia
 rw[el1]
 refine wpS_bind (cI (by lia) (wpS_bind (mU e (st:=setPending st _) (b:=q) (n:=m) (t:=m-1) (hkp _) (ea (q-1) (by lia)) (by lia) (fun t ht=>ea _ (by lia)) (by lia) (mW e.o fun u v h1 h2=>s2 _ _ (by lia) (by lia) (by lia)) ?_)))
 intro l l1 l2 l3
 dsimp only
 have VD:∀ t,q+l<=t->t<q+m->Le lt key (el (arrOf st) (q-1)) (el (arrOf st) t):=fun t t1 t2=>by
  have:=l3 (t-q) (by lia) (by lia)
  rw[bvT,show q+(t-q)=t by lia] at this
  exact this
 by_cases c2:l=0
 ·rw[if_pos (by simpa using c2)]
  refine wpS_pure (h (arrOf st) (gallopOf st) hp (fun _ _=>rfl) fun u v h1 h2 h3=>?_)
  by_cases hv:v<p+n
  ·exact s1 u v h1 h2 hv
  ·by_cases hu:u<q
   ·exact Le.trans e.o (s1 u (q-1) h1 (by lia) (by lia)) (VD v (by lia) h3)
   ·exact s2 u v (by lia) h2 h3
 rw[if_neg (by simpa using c2)]
 have za:((arrOf st).extract (p+k) q).size=n-k:=by rw[Array.size_extract];lia
 have zb:((arrOf st).extract q (q+l)).size=l:=by rw[Array.size_extract];lia
 have ela:∀ t,t<n-k->el ((arrOf st).extract (p+k) q) t=el (arrOf st) (p+k+t):=fun t ht=>K9 (by lia) (by lia)
 have elb:∀ t,t<l->el ((arrOf st).extract q (q+l)) t=el (arrOf st) (q+t):=fun t ht=>K9 (by lia) (by lia)
 have ina:∀ x∈((arrOf st).extract (p+k) q).toList,∃ t,t<n-k/\x=el (arrOf st) (p+k+t):=fun x hx=>by
  have e1:=gR (a:=arrOf st) (i:=p+k) (k:=n-k)
  rw[show p+k+(n-k)=q by lia] at e1
  rw[e1] at hx
  exact nG (by lia) hx
 have inb:∀ x∈((arrOf st).extract q (q+l)).toList,∃ t,t<l/\x=el (arrOf st) (q+t):=fun x hx=>by
  rw[gR] at hx
  exact nG (by lia) hx
 have two:Two lt key a₀ ((arrOf st).extract (p+k) q) ((arrOf st).extract q (q+l)):=by
  refine⟨fun x hx=>?_,fun x hx=>?_,pw_of fun u v h1 h2=>?_,pw_of fun u v h1 h2=>?_,by lia,by lia,?_,fun y hy=>?_⟩
  ·obtain⟨t,ht,rfl⟩:=ina x hx;exact ea _ (by lia)
  ·obtain⟨t,ht,rfl⟩:=inb x hx;exact ea _ (by lia)
  ·rw[ela u (by lia),ela v (by lia)];exact s1 _ _ (by lia) (by lia) (by lia)
  ·rw[elb u (by lia),elb v (by lia)];exact s2 _ _ (by lia) (by lia) (by lia)
  ·rw[ela 0 (by lia),elb 0 (by lia)]
   have:=k3 k (Nat.le_refl _) (by lia)
   rw[bvF] at this
   rw[Nat.add_zero,Nat.add_zero]
   cases hc:lt (key (el (arrOf st) q)) (key (el (arrOf st) (p+k)))
   ·rw[hc] at this;cases this
   ·rfl
  ·obtain⟨t,ht,rfl⟩:=inb y hy
   rw[za,ela _ (by lia),show p+k+(n-k-1)=q-1 by lia]
   have:=l2 t (by lia)
   rw[bvT] at this
   exact Le.of e.o this
 have done:∀ r g,Res lt key ((arrOf st).extract (p+k) q) ((arrOf st).extract q (q+l)) r->wpS M A E s (do modify fun c=>setArr c (r.toList.zipIdx.foldl (fun a (v,j)=>a.setIfInBounds (p+k+j) v) (arrOf c));return (failedOf (<- get)).isNone) Q (bM (setPending st (L1++(p,n+m,w)::L2).toArray) g):=fun r g hr=>by
  refine wpS_bind (wpS_modify (wpS_bind (wpS_get ?_)))
  have e0:(failedOf (setArr (bM (setPending st (L1++(p,n+m,w)::L2).toArray) g) (over (arrOf st) (p+k) r))).isNone=true:=by
   show(failedOf st).isNone=true
   rw[hf];rfl
  change wpS M A E s (pure (failedOf (setArr (bM (setPending st (L1++(p,n+m,w)::L2).toArray) g) (over (arrOf st) (p+k) r))).isNone) Q (setArr (bM (setPending st (L1++(p,n+m,w)::L2).toArray) g) (over (arrOf st) (p+k) r))
  rw[e0]
  have rs:r.size=n-k+l:=by
   have:=hr.1.length_eq
   rw[List.length_append,Array.length_toList,Array.length_toList,Array.length_toList,za,zb] at this
   exact this
  have hb:p+k+r.size<=(arrOf st).size:=by lia
  have pm:(over (arrOf st) (p+k) r).Perm a₀:=by
   refine(IW hb (hr.1.trans ?_)).trans hp
   have e1:=gR (a:=arrOf st) (i:=p+k) (k:=n-k)
   rw[show p+k+(n-k)=q by lia] at e1
   rw[e1,gR,rs,List.take_add,List.drop_drop,show p+k+(n-k)=q by lia]
  have mid:∀ t,t<r.size->(∃ t',p+k<=t'/\t'<q/\el r t=el (arrOf st) t')\/(∃ t',q<=t'/\t'<q+l/\el r t=el (arrOf st) t'):=fun t ht=>by
   rcases List.mem_append.mp (hr.1.mem_iff.mp (qL ht)) with z|z
   ·obtain⟨u,hu,eu⟩:=ina _ z
    exact .inl ⟨p+k+u,by lia,by lia,eu⟩
   ·obtain⟨u,hu,eu⟩:=inb _ z
    exact .inr ⟨q+u,by lia,by lia,eu⟩
  refine wpS_pure (h (over (arrOf st) (p+k) r) g pm (fun t ht=>?_) fun u v h1 h2 h3=>?_)
  ·rw[yL hb,if_neg (by lia)]
  ·show Le lt key (el (over (arrOf st) (p+k) r) u) (el (over (arrOf st) (p+k) r) v)
   rw[yL hb,yL hb]
   by_cases hu:u<p+k
   ·rw[if_neg (by lia)]
    by_cases hv:p+k<=v/\v<p+k+r.size
    ·rw[if_pos hv]
     rcases mid (v-(p+k)) (by lia) with⟨t',a1,a2,a3⟩|⟨t',a1,a2,a3⟩
     ·rw[a3];exact s1 _ _ h1 (by lia) (by lia)
     ·rw[a3];exact Le.trans e.o (cut u h1 hu) (s2 _ _ (Nat.le_refl _) a1 (by lia))
    ·rw[if_neg hv]
     by_cases hv2:v<p+k
     ·exact s1 _ _ h1 h2 (by lia)
     ·exact Le.trans e.o (cut u h1 hu) (s2 _ _ (Nat.le_refl _) (by lia) h3)
   ·by_cases hu2:u<p+k+r.size
    ·rw[if_pos (by lia)]
     by_cases hv:p+k<=v/\v<p+k+r.size
     ·rw[if_pos hv]
      exact rK hr.2 e.o (by lia) (by lia)
     ·rw[if_neg hv]
      rcases mid (u-(p+k)) (by lia) with⟨t',a1,a2,a3⟩|⟨t',a1,a2,a3⟩
      ·rw[a3];exact Le.trans e.o (s1 t' (q-1) (by lia) (by lia) (by lia)) (VD v (by lia) h3)
      ·rw[a3];exact s2 _ _ a1 (by lia) h3
    ·rw[if_neg (by lia),if_neg (by lia)]
     exact s2 _ _ (by lia) h2 h3
 by_cases c3:n-k<=l
 ·rw[if_pos c3]
  exact wpS_bind (Vt e (st:=setPending st _) (hkp _) two fun r g hr=>done r g hr)
 ·rw[if_neg c3]
  exact wpS_bind (Vs e (st:=setPending st _) (hkp _) two fun r g hr=>done r g hr)
end
end TS
end L2
namespace L2
open PySem PySem.Spec PyProof.Rows PySem.W
namespace TS
section
variable{α:Type}{lt:α->α->Bool}{M:Model}{A:Around}{E:Value->Shared->Prop}{s:Shared}{κ:SortKind}{key:Keyed->α}{a₀:Array Keyed}
def Runs(lt:α->α->Bool)(key:Keyed->α)(xs:Array Keyed):Nat->List (Nat×Nat×Nat)->Nat->Prop
 |a,[],b=>a=b
 |a,r::l,b=>r.1=a/\1<=r.2.1/\Srt lt key xs a (a+r.2.1)/\Runs lt key xs (a+r.2.1) l b
theorem Runs.le{xs:Array Keyed}:∀ {l:List (Nat×Nat×Nat)} {a b:Nat},Runs lt key xs a l b->a+l.length<=b
 |[],a,b,h=>by cases h;simp
 |r::l,a,b,h=>by
  have:=Runs.le h.2.2.2
  have:=h.2.1
  simp;lia
theorem Runs.congr{xs ys:Array Keyed}:∀ {l:List (Nat×Nat×Nat)} {a b:Nat},Runs lt key xs a l b->(∀ k,a<=k->k<b->el ys k=el xs k)->Runs lt key ys a l b
 |[],a,b,h,_=>h
 |r::l,a,b,h,e=>by
  have hl:=h.2.2.2.le
  refine⟨h.1,h.2.1,fun p q h1 h2 h3=>?_,Runs.congr h.2.2.2 fun k h1 h2=>e k (by lia) h2⟩
  rw[e p (by lia) (by lia),e q (by lia) (by lia)]
  exact h.2.2.1 p q h1 h2 h3
theorem Runs.app{xs:Array Keyed}:∀ {l l':List (Nat×Nat×Nat)} {a b:Nat},Runs lt key xs a (l++l') b↔∃ c,Runs lt key xs a l c/\Runs lt key xs c l' b
 |[],l',a,b=>⟨fun h=>⟨a,rfl,h⟩,fun⟨c,h1,h2⟩=>by cases h1;exact h2⟩
 |r::l,l',a,b=>by
  constructor
  ·intro h
   obtain⟨c,h1,h2⟩:=Runs.app.mp h.2.2.2
   exact⟨c,⟨h.1,h.2.1,h.2.2.1,h1⟩,h2⟩
  ·rintro⟨c,⟨h1,h2,h3,h4⟩,h5⟩
   exact⟨h1,h2,h3,Runs.app.mpr ⟨c,h4,h5⟩⟩
abbrev mkS(st:SortSt)(xs:Array Keyed)(L:List (Nat×Nat×Nat))(g:Nat):SortSt:=SortSt.mk' (kindOf st) xs L.toArray g (failedOf st)
theorem Eu(e:Env M A s κ key lt a₀){st:SortSt}(hk:kindOf st=κ)(hf:failedOf st=none){xs:Array Keyed}(hp:xs.Perm a₀){L:List (Nat×Nat×Nat)}{g i lo:Nat}(hi:i+1<L.length)(hR:Runs lt key xs 0 L lo)(hz:lo<=a₀.size){Q:Bool->SortSt->Prop}
  (h:∀ xs' L' g',xs'.Perm a₀->Runs lt key xs' 0 L' lo->L'.length+1=L.length->(∀ k,lo<=k->el xs' k=el xs k)->Q true (mkS st xs' L' g')):wpS M A E s (mergeAt' i) Q (mkS st xs L g):=by
 have e0:L=L.take i++(L[i]::L[i+1]::L.drop (i+2)):=by
  rw[<- List.drop_eq_getElem_cons,<- List.drop_eq_getElem_cons,List.take_append_drop]
 generalize hx:L[i]=x at e0
 generalize hy:L[i+1]=y at e0
 generalize h1:L.take i=L1 at e0
 generalize h2:L.drop (i+2)=L2 at e0
 obtain⟨p,n,w⟩:=x
 obtain⟨q,m,w'⟩:=y
 have hl1:L1.length=i:=by rw[<- h1,List.length_take];lia
 rw[e0] at hR
 obtain⟨c,r1,r2⟩:=Runs.app.mp hR
 obtain⟨a1,a2,a3,b1,b2,b3,b4⟩:=r2
 dsimp only at a1 a2 a3 b1 b2 b3 b4
 subst a1
 subst b1
 have le1:=r1.le
 have le2:=b4.le
 refine Xm e (st:=mkS st xs L g) (L1:=L1) (L2:=L2) (p:=p) (n:=n) (w:=w) (q:=p+n) (m:=m) (w':=w') hk hf hp (by show L.toArray.toList=_;rw[List.toList_toArray];exact e0) hl1 rfl a2 b2 (by lia) a3 b3 ?_
 intro ys g' hy1 hy2 hy3
 have T6:∀ k,k<p\/p+n+m<=k->el ys k=el xs k:=hy2
 refine h ys _ g' hy1 (Runs.app.mpr ⟨p,r1.congr fun k _ hk=>T6 k (.inl hk),rfl,(show 1<=n+m by lia),?_,?_⟩) ?_ fun k hk=>T6 k (.inr (by lia))
 ·have:p+(n+m)=p+n+m:=by lia
  show Srt lt key ys p (p+(n+m))
  rw[this];exact hy3
 ·show Runs lt key ys (p+(n+m)) L2 lo
  have:p+(n+m)=p+n+m:=by lia
  rw[this]
  exact b4.congr fun k hk _=>T6 k (.inr hk)
 ·rw[e0];simp;lia
theorem Runs.modify{xs:Array Keyed}{f:Nat×Nat×Nat->Nat×Nat×Nat}(h1:∀ x,(f x).1=x.1)(h2:∀ x,(f x).2.1=x.2.1):∀ {l:List (Nat×Nat×Nat)} {k a b:Nat},Runs lt key xs a l b->Runs lt key xs a (l.modify k f) b
 |[],k,a,b,h=>by simpa using h
 |r::l,0,a,b,h=>by
  rw[List.modify_zero_cons]
  unfold Runs at h ⊢
  rw[h1,h2];exact h
 |r::l,k+1,a,b,h=>by
  rw[List.modify_succ_cons]
  exact⟨h.1,h.2.1,h.2.2.1,Runs.modify h1 h2 h.2.2.2⟩
theorem Ra(e:Env M A s κ key lt a₀){st:SortSt}(hk:kindOf st=κ)(hf:failedOf st=none)(ha:arrOf st=a₀)(hP:pendingOf st=#[]){Q:Unit->SortSt->Prop}
  (h:∀ st',(arrOf st').Perm a₀->failedOf st'=none->Srt lt key (arrOf st') 0 a₀.size->Q () st'):wpS M A E s sortRuns' Q st:=by
 rw[sortRuns'_eq]
 refine wpS_bind (wpS_get ?_)
 rw[ha]
 dsimp only
 generalize minRun' a₀.size a₀.size 0=mr
 refine wpS_bind (wpS_mono (wpS_forRange (I:=fun x c st'=>∃ xs L g lo,st'=mkS st xs L g/\c=(none,lo)/\xs.Perm a₀/\Runs lt key xs 0 L lo/\lo<=a₀.size/\(x<=lo\/lo=a₀.size))
  (Q:=fun c st'=>∃ xs L g,st'=mkS st xs L g/\c=(none,a₀.size)/\xs.Perm a₀/\Runs lt key xs 0 L a₀.size) ?step ?fin ?init) ?post)
 case init=>
  refine⟨a₀,[],gallopOf st,0,?_,rfl,.refl _,rfl,by lia,.inl (Nat.le_refl _)⟩
  show st=SortSt.mk' (kindOf st) a₀ #[] (gallopOf st) (failedOf st)
  rw[<- ha,<- hP]
 case fin=>
  rintro c st' ⟨xs,L,g,lo,rfl,rfl,a1,a2,a3,a4⟩
  have:lo=a₀.size:=by lia
  subst this
  exact⟨xs,L,g,rfl,rfl,a1,a2⟩
 case step=>
  rintro x c st' _ hx ⟨xs,L,g,lo,rfl,rfl,a1,a2,a3,a4⟩
  dsimp only
  by_cases hge:lo>=a₀.size
  ·rw[if_pos hge]
   have:lo=a₀.size:=by lia
   subst this
   exact wpS_pure ⟨xs,L,g,rfl,rfl,a1,a2⟩
  rw[if_neg hge]
  refine wpS_bind (w5 e (st:=mkS st xs L g) hk a1 (by lia) (by lia) ?_)
  intro n ys p1 p2 p3 p4 p5
  dsimp only
  have hy:Low ys xs lo:=p2
  by_cases hm:n<mr
  ·rw[if_pos hm]
   refine wpS_bind (wpS_lift (wpAny_rule ⟨rfl,?_⟩))
   refine wpS_bind (Et e (st:=mkS st ys L g) hk p1 p3 (by lia) (by lia) p5 fun zs r1 r2 r5=>?_)
   rw[if_neg (by decide)]
   have r3:1<=min (a₀.size-lo) mr:=by lia
   have r4:lo+min (a₀.size-lo) mr<=a₀.size:=by lia
   have rR:Runs lt key zs 0 L lo:=a2.congr fun k _ hk=>(r2.trans hy) k hk
   show wpS M A E s _ _ (mkS st zs L g)
   clear p2 hy p5 r2 hm p3 p4 p1
   generalize min (a₀.size-lo) mr=n at r3 r4 r5 ⊢
   have snoc:∀(ys:Array Keyed)(L':List (Nat×Nat×Nat)),Runs lt key ys 0 L' lo->(∀ k,lo<=k->el ys k=el zs k)->Runs lt key ys 0 (L'++[(lo,n,0)]) (lo+n):=fun ys L' hy he=>
    Runs.app.mpr ⟨lo,hy,rfl,r3,fun p q h1 h2 h3=>by rw[he p h1,he q (by lia)];exact r5 p q h1 h2 h3,rfl⟩
   have push:∀(ys:Array Keyed)(L':List (Nat×Nat×Nat))(g':Nat),setPending (mkS st ys L' g') ((pendingOf (mkS st ys L' g')).push (lo,n,0))=mkS st ys (L'++[(lo,n,0)]) g':=fun ys L' g'=>by
    show SortSt.mk' _ _ (L'.toArray.push (lo,n,0)) _ _=_
    rw[List.push_toArray]
   refine wpS_bind (wpS_get ?_)
   have ep:∀(ys:Array Keyed)(L':List (Nat×Nat×Nat))(g':Nat),pendingOf (mkS st ys L' g')=L'.toArray:=fun _ _ _=>rfl
   rw[ep]
   cases hb:L.toArray.back? with
   |none=>
    dsimp only
    refine wpS_bind (wpS_modify (wpS_pure ?_))
    rw[push]
    exact⟨zs,_,g,lo+n,rfl,rfl,r1,snoc zs L rR (fun _ _=>rfl),r4,.inl (by lia)⟩
   |some z=>
    obtain⟨u,v,w⟩:=z
    dsimp only
    refine wpS_bind (wpS_mono (wpS_forRange (I:=fun x c st'=>∃ ys L' g',st'=mkS st ys L' g'/\c=(none,())/\ys.Perm a₀/\Runs lt key ys 0 L' lo/\(∀ k,lo<=k->el ys k=el zs k))
     (Q:=fun c st'=>∃ ys L' g',st'=mkS st ys L' g'/\c=(none,())/\ys.Perm a₀/\Runs lt key ys 0 L' lo/\(∀ k,lo<=k->el ys k=el zs k)) ?sti (fun _ _ z=>z) ⟨zs,L,g,rfl,rfl,r1,rR,fun _ _=>rfl⟩) ?poi)
    case sti=>
     rintro y c st' _ hy ⟨ys,L',g',rfl,rfl,b1,b2,b3⟩
     refine wpS_bind (wpS_get ?_)
     rw[ep,List.size_toArray]
     by_cases hl:L'.length>1
     ·rw[if_pos hl,List.getElem?_toArray,List.getElem?_eq_getElem (by lia)]
      generalize L'[L'.length-2]=t
      obtain⟨t1,t2,t3⟩:=t
      dsimp only
      by_cases ho:t3<=power' a₀.size (2*u+v) (2*u+v+v+n) a₀.size
      ·rw[if_pos ho]
       exact wpS_pure ⟨ys,L',g',rfl,rfl,b1,b2,b3⟩
      ·rw[if_neg ho]
       refine wpS_bind (Eu e hk hf b1 (by lia) b2 (by lia) fun zs L2 g2 c1 c2 c3 c4=>?_)
       exact wpS_pure ⟨zs,L2,g2,rfl,rfl,c1,c2,fun k hk=>(c4 k hk).trans (b3 k hk)⟩
     ·rw[if_neg hl]
      exact wpS_pure ⟨ys,L',g',rfl,rfl,b1,b2,b3⟩
    case poi=>
     rintro c st' ⟨ys,L',g',rfl,rfl,b1,b2,b3⟩
     dsimp only
     refine wpS_bind (wpS_modify (wpS_bind (wpS_modify (wpS_pure ?_))))
     generalize power' a₀.size (2*u+v) (2*u+v+v+n) a₀.size=pw
     have em:setPending (mkS st ys L' g') ((pendingOf (mkS st ys L' g')).modify ((pendingOf (mkS st ys L' g')).size-1) fun x=>(x.1,x.2.1,pw))=mkS st ys (L'.modify (L'.length-1) fun x=>(x.1,x.2.1,pw)) g':=by
      show SortSt.mk' _ _ (L'.toArray.modify (L'.toArray.size-1) fun x=>(x.1,x.2.1,pw)) _ _=_
      rw[List.modify_toArray,List.size_toArray]
     rw[em,push]
     exact⟨ys,_,g',lo+n,rfl,rfl,b1,snoc ys _ (Runs.modify (f:=fun x=>(x.1,x.2.1,pw)) (fun _=>rfl) (fun _=>rfl) b2) b3,r4,.inl (by lia)⟩
  ·rw[if_neg hm]
   have rR:Runs lt key ys 0 L lo:=a2.congr fun k _ hk=>hy k hk
   have r4:lo+n<=a₀.size:=by lia
   show wpS M A E s _ _ (mkS st ys L g)
   clear hm hy p2
   have r5:=p5
   have r3:=p3
   have r1:=p1
   generalize ys=zs at r1 r3 r5 rR ⊢
   have snoc:∀(ys:Array Keyed)(L':List (Nat×Nat×Nat)),Runs lt key ys 0 L' lo->(∀ k,lo<=k->el ys k=el zs k)->Runs lt key ys 0 (L'++[(lo,n,0)]) (lo+n):=fun ys L' hy he=>
    Runs.app.mpr ⟨lo,hy,rfl,r3,fun p q h1 h2 h3=>by rw[he p h1,he q (by lia)];exact r5 p q h1 h2 h3,rfl⟩
   have push:∀(ys:Array Keyed)(L':List (Nat×Nat×Nat))(g':Nat),setPending (mkS st ys L' g') ((pendingOf (mkS st ys L' g')).push (lo,n,0))=mkS st ys (L'++[(lo,n,0)]) g':=fun ys L' g'=>by
    show SortSt.mk' _ _ (L'.toArray.push (lo,n,0)) _ _=_
    rw[List.push_toArray]
   refine wpS_bind (wpS_get ?_)
   have ep:∀(ys:Array Keyed)(L':List (Nat×Nat×Nat))(g':Nat),pendingOf (mkS st ys L' g')=L'.toArray:=fun _ _ _=>rfl
   rw[ep]
   cases hb:L.toArray.back? with
   |none=>
    dsimp only
    refine wpS_bind (wpS_modify (wpS_pure ?_))
    rw[push]
    exact⟨zs,_,g,lo+n,rfl,rfl,r1,snoc zs L rR (fun _ _=>rfl),r4,.inl (by lia)⟩
   |some z=>
    obtain⟨u,v,w⟩:=z
    dsimp only
    refine wpS_bind (wpS_mono (wpS_forRange (I:=fun x c st'=>∃ ys L' g',st'=mkS st ys L' g'/\c=(none,())/\ys.Perm a₀/\Runs lt key ys 0 L' lo/\(∀ k,lo<=k->el ys k=el zs k))
     (Q:=fun c st'=>∃ ys L' g',st'=mkS st ys L' g'/\c=(none,())/\ys.Perm a₀/\Runs lt key ys 0 L' lo/\(∀ k,lo<=k->el ys k=el zs k)) ?sti (fun _ _ z=>z) ⟨zs,L,g,rfl,rfl,r1,rR,fun _ _=>rfl⟩) ?poi)
    case sti=>
     rintro y c st' _ hy ⟨ys,L',g',rfl,rfl,b1,b2,b3⟩
     refine wpS_bind (wpS_get ?_)
     rw[ep,List.size_toArray]
     by_cases hl:L'.length>1
     ·rw[if_pos hl,List.getElem?_toArray,List.getElem?_eq_getElem (by lia)]
      generalize L'[L'.length-2]=t
      obtain⟨t1,t2,t3⟩:=t
      dsimp only
      by_cases ho:t3<=power' a₀.size (2*u+v) (2*u+v+v+n) a₀.size
      ·rw[if_pos ho]
       exact wpS_pure ⟨ys,L',g',rfl,rfl,b1,b2,b3⟩
      ·rw[if_neg ho]
       refine wpS_bind (Eu e hk hf b1 (by lia) b2 (by lia) fun zs L2 g2 c1 c2 c3 c4=>?_)
       exact wpS_pure ⟨zs,L2,g2,rfl,rfl,c1,c2,fun k hk=>(c4 k hk).trans (b3 k hk)⟩
     ·rw[if_neg hl]
      exact wpS_pure ⟨ys,L',g',rfl,rfl,b1,b2,b3⟩
    case poi=>
     rintro c st' ⟨ys,L',g',rfl,rfl,b1,b2,b3⟩
     dsimp only
     refine wpS_bind (wpS_modify (wpS_bind (wpS_modify (wpS_pure ?_))))
     generalize power' a₀.size (2*u+v) (2*u+v+v+n) a₀.size=pw
     have em:setPending (mkS st ys L' g') ((pendingOf (mkS st ys L' g')).modify ((pendingOf (mkS st ys L' g')).size-1) fun x=>(x.1,x.2.1,pw))=mkS st ys (L'.modify (L'.length-1) fun x=>(x.1,x.2.1,pw)) g':=by
      show SortSt.mk' _ _ (L'.toArray.modify (L'.toArray.size-1) fun x=>(x.1,x.2.1,pw)) _ _=_
      rw[List.modify_toArray,List.size_toArray]
     rw[em,push]
     exact⟨ys,_,g',lo+n,rfl,rfl,b1,snoc ys _ (Runs.modify (f:=fun x=>(x.1,x.2.1,pw)) (fun _=>rfl) (fun _=>rfl) b2) b3,r4,.inl (by lia)⟩
 case post=>
  rintro c st' ⟨xs,L,g,rfl,rfl,a1,a2⟩
  dsimp only
  have one:∀(xs:Array Keyed)(L:List (Nat×Nat×Nat)),L.length<=1->Runs lt key xs 0 L a₀.size->Srt lt key xs 0 a₀.size:=fun xs L hl hR=>by
   cases L with
   |nil=>
    have:0=a₀.size:=hR
    intro p q _ _ hq;lia
   |cons r l=>
    cases l with
    |nil=>
     have h4:0+r.2.1=a₀.size:=hR.2.2.2
     have:=hR.2.2.1
     rwa[h4] at this
    |cons _ _=>simp at hl
  refine wpS_bind (wpS_mono (wpS_forRange (I:=fun x c st'=>∃ xs L g,st'=mkS st xs L g/\c=(none,())/\xs.Perm a₀/\Runs lt key xs 0 L a₀.size/\L.length+x<=a₀.size)
   (Q:=fun c st'=>∃ xs L g,st'=mkS st xs L g/\c=(none,())/\xs.Perm a₀/\Runs lt key xs 0 L a₀.size/\L.length<=1) ?st2 ?fi2 ?in2) ?po2)
  case in2=>
   have:=a2.le
   exact⟨xs,L,g,rfl,rfl,a1,a2,by lia⟩
  case fi2=>
   rintro c st' ⟨xs,L,g,rfl,rfl,a1,a2,a3⟩
   exact⟨xs,L,g,rfl,rfl,a1,a2,by lia⟩
  case po2=>
   rintro c st' ⟨xs,L,g,rfl,rfl,a1,a2,a3⟩
   exact wpS_pure (h _ a1 hf (one xs L a3 a2))
  case st2=>
   rintro x c st' _ hx ⟨xs,L,g,rfl,rfl,a1,a2,a3⟩
   refine wpS_bind (wpS_get ?_)
   have ep:pendingOf (mkS st xs L g)=L.toArray:=rfl
   rw[ep,List.size_toArray]
   by_cases hl:L.length<=1
   ·rw[if_pos hl]
    exact wpS_pure ⟨xs,L,g,rfl,rfl,a1,a2,hl⟩
   ·rw[if_neg hl]
    have hi:∀ c:Prop,[Decidable c]->(if c then L.length-2-1 else L.length-2)+1<L.length:=fun c _=>by split<;>lia
    refine wpS_bind (Eu e hk hf a1 (hi _) a2 (Nat.le_refl _) fun zs L2 g2 b1 b2 b3 b4=>?_)
    exact wpS_pure ⟨zs,L2,g2,rfl,rfl,b1,b2,by lia⟩
end
end TS
end L2
namespace L2
open PySem PySem.Spec PyProof.Rows PySem.SeqAt PySem.MeetsSeq PySem.MeetsSeq2 PySem.MeetsSeq3
open PySem.AutoSeq1 (wpAny_loadPart')
theorem Bk(A:Around)(s:Shared)(a:Int)(t:Tok)(c:Int)(u:Tok)(prog:Program)(w:World)(E:Value->Shared->Prop)(Q:Value->Shared->Prop)(h:Q (.bool (decide (a<c))) s):wpAny (model prog w) A (richCompare .Lt (.int a t) (.int c u)) Q E s:=
 (lt_int h:wpAny (model prog w) A (compareOp .Lt (.int a t) (.int c u)) Q E s)
theorem Bj(A:Around)(s:Shared)(a:Int)(t:Tok)(c:Int)(u:Tok)(prog:Program)(w:World)(E:Value->Shared->Prop)(Q:Value->Shared->Prop)(h:Q (.bool (decide (c<a))) s):wpAny (model prog w) A (richCompare .Gt (.int a t) (.int c u)) Q E s:=
 (gt_int h:wpAny (model prog w) A (compareOp .Gt (.int a t) (.int c u)) Q E s)
theorem Pr(p q:Addr)(x1 x2 y1 y2:Int)(t1 t2 u1 u2:Tok)(n m:Nat)(d1 d2:Option Addr)(z1 z2:Array (Option Value)):Meets (Builtin.«tuple.__lt__» ⟨[.ref p,.ref q],[]⟩)
  (fun _ R s=>s.heap.get? p=some { cls:=.type "tuple",dict:=d1,data:=.seq #[.int x1 t1,.int x2 t2] n,slots:=z1 }/\s.heap.get? q=some { cls:=.type "tuple",dict:=d2,data:=.seq #[.int y1 u1,.int y2 u2] m,slots:=z2 }/\R (.ok (.ret (.bool (fW (x1,x2) (y1,y2))))) s):=
 .of_wp fun prog w A R s h=>by
  obtain⟨hp,g,d,tk,os⟩:=s;obtain⟨e1,e2,h⟩:=h
  have f2:=AutoSeq1.sub_tuple_tuple
  have k1:=fun(Q:Bool->Shared->Prop)(E:Value->Shared->Prop)(h:Q (x1==y1) ⟨hp,g,d,tk,os⟩)=>(wpAny_eqBool_int (t:=t1) (u:=u1) h:wpAny (model prog w) A.in1 (eqBool (.int x1 t1) (.int y1 u1)) Q E ⟨hp,g,d,tk,os⟩)
  have k2:=fun(Q:Bool->Shared->Prop)(E:Value->Shared->Prop)(h:Q (x2==y2) ⟨hp,g,d,tk,os⟩)=>(wpAny_eqBool_int (t:=t2) (u:=u2) h:wpAny (model prog w) A.in1 (eqBool (.int x2 t2) (.int y2 u2)) Q E ⟨hp,g,d,tk,os⟩)
  have r1:=Bk A.in1 ⟨hp,g,d,tk,os⟩ x1 t1 y1 u1 prog w
  have r2:=Bk A.in1 ⟨hp,g,d,tk,os⟩ x2 t2 y2 u2 prog w
  have out:∀ b:Bool,(b=true↔bF (x1,x2) (y1,y2))->R (.ok (.ret (.bool b))) ⟨hp,g,d,tk,os⟩:=fun b hb=>by
   have:b=fW (x1,x2) (y1,y2):=by
    unfold fW
    by_cases hc:bF (x1,x2) (y1,y2)
    ·rw[decide_eq_true hc];exact hb.mpr hc
    ·rw[decide_eq_false hc]
     cases b
     ·rfl
     ·exact absurd (hb.mp rfl) hc
   rw[this];exact h
  wp_walk using wpAny_loadPart' e1,wpAny_loadPart' e2,k1,k2
  by_cases q1:x1=y1
  ·rw[show(x1==y1)=true from beq_iff_eq.mpr q1]
   wp_walk using k2
   by_cases q2:x2=y2
   ·rw[show(x2==y2)=true from beq_iff_eq.mpr q2]
    wp_walk
    refine⟨_,rfl,out _ ?_⟩
    simp[Builtin.Tuple.tupleCompareSizes,bF,q1,q2]
   ·rw[show(x2==y2)=false from beq_eq_false_iff_ne.mpr q2]
    wp_walk using r2
    refine⟨_,rfl,out _ ?_⟩
    rw[decide_eq_true_iff];unfold bF;dsimp only;lia
  ·rw[show(x1==y1)=false from beq_eq_false_iff_ne.mpr q1]
   wp_walk using r1
   refine⟨_,rfl,out _ ?_⟩
   rw[decide_eq_true_iff];unfold bF;dsimp only;lia
theorem Ox(p q:Addr)(x1 x2 y1 y2:Int)(t1 t2 u1 u2:Tok)(n m:Nat)(d1 d2:Option Addr)(z1 z2:Array (Option Value)):Meets (Builtin.«tuple.__gt__» ⟨[.ref p,.ref q],[]⟩)
  (fun _ R s=>s.heap.get? p=some { cls:=.type "tuple",dict:=d1,data:=.seq #[.int x1 t1,.int x2 t2] n,slots:=z1 }/\s.heap.get? q=some { cls:=.type "tuple",dict:=d2,data:=.seq #[.int y1 u1,.int y2 u2] m,slots:=z2 }/\R (.ok (.ret (.bool (fW (y1,y2) (x1,x2))))) s):=
 .of_wp fun prog w A R s h=>by
  obtain⟨hp,g,d,tk,os⟩:=s;obtain⟨e1,e2,h⟩:=h
  have f2:=AutoSeq1.sub_tuple_tuple
  have k1:=fun(Q:Bool->Shared->Prop)(E:Value->Shared->Prop)(h:Q (x1==y1) ⟨hp,g,d,tk,os⟩)=>(wpAny_eqBool_int (t:=t1) (u:=u1) h:wpAny (model prog w) A.in1 (eqBool (.int x1 t1) (.int y1 u1)) Q E ⟨hp,g,d,tk,os⟩)
  have k2:=fun(Q:Bool->Shared->Prop)(E:Value->Shared->Prop)(h:Q (x2==y2) ⟨hp,g,d,tk,os⟩)=>(wpAny_eqBool_int (t:=t2) (u:=u2) h:wpAny (model prog w) A.in1 (eqBool (.int x2 t2) (.int y2 u2)) Q E ⟨hp,g,d,tk,os⟩)
  have r1:=Bj A.in1 ⟨hp,g,d,tk,os⟩ x1 t1 y1 u1 prog w
  have r2:=Bj A.in1 ⟨hp,g,d,tk,os⟩ x2 t2 y2 u2 prog w
  have out:∀ b:Bool,(b=true↔bF (y1,y2) (x1,x2))->R (.ok (.ret (.bool b))) ⟨hp,g,d,tk,os⟩:=fun b hb=>by
   have:b=fW (y1,y2) (x1,x2):=by
    unfold fW
    by_cases hc:bF (y1,y2) (x1,x2)
    ·rw[decide_eq_true hc];exact hb.mpr hc
    ·rw[decide_eq_false hc]
     cases b
     ·rfl
     ·exact absurd (hb.mp rfl) hc
   rw[this];exact h
  wp_walk using wpAny_loadPart' e1,wpAny_loadPart' e2,k1,k2
  by_cases q1:x1=y1
  ·rw[show(x1==y1)=true from beq_iff_eq.mpr q1]
   wp_walk using k2
   by_cases q2:x2=y2
   ·rw[show(x2==y2)=true from beq_iff_eq.mpr q2]
    wp_walk
    refine⟨_,rfl,out _ ?_⟩
    simp[Builtin.Tuple.tupleCompareSizes,bF,q1,q2]
   ·rw[show(x2==y2)=false from beq_eq_false_iff_ne.mpr q2]
    wp_walk using r2
    refine⟨_,rfl,out _ ?_⟩
    rw[decide_eq_true_iff];unfold bF;dsimp only;lia
  ·rw[show(x1==y1)=false from beq_eq_false_iff_ne.mpr q1]
   wp_walk using r1
   refine⟨_,rfl,out _ ?_⟩
   rw[decide_eq_true_iff];unfold bF;dsimp only;lia
section
variable{X:Cx}{K:PySem.W.Frag}
def Wy(K:PySem.W.Frag):R2:=fun x y H Q=>∃(a b:Cell),Den K H x (ao a)/\Den K H y (ao b)/\Q (.bl (fW b a)) H
theorem U8(hu:X.A.units+60<cLine):OpR X (compareOp .Gt) (Wy X.K):=by
 intro pins s σ H x y v u Q I rx ry h
 obtain⟨a,b,da,db,q⟩:=h
 obtain⟨p,o,t1,t2,n,rfl,e1,c1,f1⟩:=oY I da rx
 obtain⟨p',o',u1,u2,m,rfl,e2,c2,f2⟩:=oY I db ry
 obtain⟨oc,od,of,os⟩:=o
 obtain⟨oc',od',of',os'⟩:=o'
 dsimp only at c1 f1 c2 f2
 subst c1 f1 c2 f2
 refine richCompare_meets_room (op:=.Gt) ⟨_,e1,rfl⟩ ⟨_,e2,rfl⟩ PySem.F.slot_tuple_gt PySem.F.entry_tuple_gt (PySem.F.args_tuple_gt_2 _ _) (Ox p p' a.1 a.2 b.1 b.2 t1 t2 u1 u2 n m od od' os os') ⟨e1,e2,?_⟩ (by lia)
 exact(show Value.bool (fW b a)≠Value.notImplemented/\EP X pins σ Q (.bool (fW b a)) s from⟨(fun z=>nomatch z),⟨.bl (fW b a),H,I,rfl,q⟩⟩)
theorem W8(hu:X.A.units+60<cLine)(hK:X.K=K:=by rfl):OpR X (compareOp .Gt) (Wy K):=by subst hK;exact U8 hu
end
def llt:List Cell->List Cell->Bool
 |[],[]=>false
 |[],_::_=>true
 |_::_,[]=>false
 |a::x,b::y=>if a=b then llt x y else fW a b
theorem pF:fJ llt:=by
 refine⟨?_,?_,?_⟩
 ·intro a
  induction a with
  |nil=>intro b h;cases b<;>first|rfl|(cases h)
  |cons x a ih=>
   intro b h
   cases b with
   |nil=>cases h
   |cons y b=>
    unfold llt at h ⊢
    by_cases e:x=y
    ·rw[if_pos e] at h;rw[if_pos e.symm];exact ih b h
    ·rw[if_neg e] at h;rw[if_neg (Ne.symm e)];exact mX.sZ _ _ h
 ·intro a
  induction a with
  |nil=>intro b c _ h;cases c<;>first|rfl|skip;cases b<;>simp_all[llt]
  |cons x a ih=>
   intro b c h1 h2
   cases b with
   |nil=>simp[llt] at h1
   |cons y b=>
    cases c with
    |nil=>simp[llt] at h2
    |cons z c=>
     unfold llt at h1 h2 ⊢
     by_cases e1:y=x
     ·subst e1
      rw[if_pos rfl] at h1
      by_cases e2:z=y
      ·rw[if_pos e2] at h2 ⊢;exact ih b c h1 h2
      ·rw[if_neg e2] at h2 ⊢;exact h2
     ·rw[if_neg e1] at h1
      by_cases e2:z=y
      ·subst e2
       rw[if_neg e1];exact h1
      ·rw[if_neg e2] at h2
       by_cases e3:z=x
       ·subst e3
        exact absurd (mX.anti _ _ h1 h2) (by simpa using e1)
       ·rw[if_neg e3];exact mX.tr _ _ _ h1 h2
 ·intro a
  induction a with
  |nil=>intro b h1 h2;cases b<;>simp_all[llt]
  |cons x a ih=>
   intro b h1 h2
   cases b with
   |nil=>simp[llt] at h2
   |cons y b=>
    unfold llt at h1 h2
    by_cases e:x=y
    ·rw[if_pos e] at h1;rw[if_pos e.symm] at h2;rw[e,ih b h1 h2]
    ·rw[if_neg e] at h1;rw[if_neg (Ne.symm e)] at h2;exact absurd (mX.anti _ _ h1 h2) e
end L2
namespace L2
open PySem PySem.Spec PyProof.Rows PySem.SeqAt PySem.MeetsSeq PySem.MeetsSeq2 PySem.MeetsSeq3
open PySem.AutoSeq1 (wpAny_loadPart')
def RX(A:Around)(s:Shared)(y x:Value)(b:Bool):Prop:=
 ∀(prog:Program)(w:World)(E:Value->Shared->Prop)(Q:Value->Shared->Prop),Q (.bool b) s->wpAny (model prog w) A (richCompare .Lt y x) Q E s
theorem Pq(l b:Addr)(xs ys:Array Value)(n m:Nat)(d1 d2:Option Addr)(z1 z2:Array (Option Value))(cs ds:List Cell)(hx:xs.size=cs.length)(hy:ys.size=ds.length)(k:Nat) :
  ∀ i:Nat,cs.length-i=k->i<=cs.length->i<=ds.length->Meets (Builtin.«list.__eq__.loop» ⟨[.ref l,.ref b,rawInt i,rawInt 0],[]⟩)
   (fun A R s=>s.heap.get? l=some { cls:=.type "list",dict:=d1,data:=.seq xs n,slots:=z1 }/\s.heap.get? b=some { cls:=.type "list",dict:=d2,data:=.seq ys m,slots:=z2 } /\
    (∀ j (h1:j<xs.size) (h2:j<ys.size) (h3:j<cs.length) (h4:j<ds.length),EqAt A.in1 s xs[j] ys[j] (decide (cs[j]=ds[j]))/\RX A.in1 s xs[j] ys[j] (fW cs[j] ds[j])) /\
    R (.ok (.ret (.bool (llt (cs.drop i) (ds.drop i))))) s):=by
 have fin:∀ i,i<=cs.length->i<=ds.length->(i=cs.length\/i=ds.length)->llt (cs.drop i) (ds.drop i)=decide (xs.size<ys.size):=fun i i1 i2 ho=>by
  rw[hx,hy]
  by_cases e1:i=cs.length
  ·rw[List.drop_of_length_le (by lia)]
   by_cases e2:i=ds.length
   ·rw[List.drop_of_length_le (by lia),decide_eq_false (by lia)];rfl
   ·rw[List.drop_eq_getElem_cons (by lia),decide_eq_true (by lia)];rfl
  ·have e2:i=ds.length:=by lia
   rw[List.drop_eq_getElem_cons (by lia),List.drop_of_length_le (l:=ds) (by lia),decide_eq_false (by lia)];rfl
 induction k with
 |zero=>
  intro i hk i1 i2 prog w A R s h
  obtain⟨hp,g,d,tk,os⟩:=s;obtain⟨hl,hb,he,h⟩:=h
  wp_walk using wpAny_loadPart' hl,wpAny_loadPart' hb
  have hi1:xs[((i:Nat):Int).toNat]?=none:=by simp;lia
  rw[hi1]
  rw[fin i i1 i2 (.inl (by lia))] at h
  cases ys[((i:Nat):Int).toNat]?
  all_goals
   wp_walk using wpAny_loadPart' hl,wpAny_loadPart' hb
   exact h
 |succ k ih=>
  intro i hk i1 i2 prog w A R s h
  obtain⟨hp,g,d,tk,os⟩:=s;obtain⟨hl,hb,he,h⟩:=h
  wp_walk using wpAny_loadPart' hl,wpAny_loadPart' hb
  have hi1:xs[((i:Nat):Int).toNat]?=some xs[i]:=by
   rw[Int.toNat_natCast];exact Array.getElem?_eq_getElem (by lia)
  by_cases e2:i=ds.length
  ·have hi2:ys[((i:Nat):Int).toNat]?=none:=by simp;lia
   rw[hi1,hi2]
   rw[fin i i1 i2 (.inr e2)] at h
   wp_walk using wpAny_loadPart' hl,wpAny_loadPart' hb
   exact h
  ·have hi2:ys[((i:Nat):Int).toNat]?=some ys[i]:=by
    rw[Int.toNat_natCast];exact Array.getElem?_eq_getElem (by lia)
   have hc:((i:Int)+1)=((i+1:Nat):Int):=by push_cast;rfl
   obtain⟨g1,g2⟩:=he i (by lia) (by lia) (by lia) (by lia)
   rw[hi1,hi2]
   rw[List.drop_eq_getElem_cons (by lia),List.drop_eq_getElem_cons (l:=ds) (by lia)] at h
   unfold llt at h
   refine wpAny_bind (g1 prog w _ _ ?_)
   by_cases e3:cs[i]=ds[i]
   ·rw[if_pos e3] at h
    rw[decide_eq_true e3]
    wp_walk
    rw[hc]
    exact⟨plainId_quiet plain_eq_loop _,codeAny_builtin entry_eq_loop (by
     rw[Around.under_plainId plain_eq_loop _]
     exact ih (i+1) (by lia) (by lia) (by lia) prog w A R _ ⟨hl,hb,he,h⟩)⟩
   ·rw[if_neg e3] at h
    rw[decide_eq_false e3]
    wp_walk using wpAny_loadPart' hl,wpAny_loadPart' hb
    rw[hi1,hi2]
    refine wpAny_bind (g2 prog w _ _ ?_)
    wp_walk
    exact h
theorem Kz(l b:Addr)(xs ys:Array Value)(n m:Nat)(d1 d2:Option Addr)(z1 z2:Array (Option Value))(cs ds:List Cell)(hx:xs.size=cs.length)(hy:ys.size=ds.length):Meets (Builtin.«list.__lt__» ⟨[.ref l,.ref b],[]⟩)
   (fun A R s=>s.heap.get? l=some { cls:=.type "list",dict:=d1,data:=.seq xs n,slots:=z1 }/\s.heap.get? b=some { cls:=.type "list",dict:=d2,data:=.seq ys m,slots:=z2 } /\
    (∀ j (h1:j<xs.size) (h2:j<ys.size) (h3:j<cs.length) (h4:j<ds.length),EqAt A.in1 s xs[j] ys[j] (decide (cs[j]=ds[j]))/\RX A.in1 s xs[j] ys[j] (fW cs[j] ds[j])) /\
    R (.ok (.ret (.bool (llt cs ds)))) s):=by
 intro prog w A R s h
 obtain⟨hp,g,d,tk,os⟩:=s;obtain⟨hl,hb,he,h⟩:=h
 have f3:=AutoSeq1.sub_list_list
 wp_walk using wpAny_loadPart' hl,wpAny_loadPart' hb
 exact⟨plainId_quiet plain_eq_loop _,codeAny_builtin entry_eq_loop (by
  rw[Around.under_plainId plain_eq_loop _]
  exact Pq l b xs ys n m d1 d2 z1 z2 cs ds hx hy _ 0 rfl (Nat.zero_le _) (Nat.zero_le _) prog w A R _ ⟨hl,hb,he,h⟩)⟩
end L2
namespace L2
open PySem PySem.Spec PyProof.Rows PySem.W PySem.SeqAt
structure iK(h:Heap)(u:Value)(c:Cell):Prop where
 ex:∃(a:Addr)(o:Obj)(t t':Tok)(n:Nat),u=.ref a/\h.get? a=some o/\o.cls=.type "tuple" /\ o.data=.seq #[.int c.1 t,.int c.2 t'] n
theorem iK.keep{h h':Heap}{u:Value}{c:Cell}(e:iK h u c)(k:Keeps h h'):iK h' u c:=by
 obtain⟨a,o,t,t',n,h1,h2,h3,h4⟩:=e.ex
 exact⟨a,o,t,t',n,h1,k _ _ h2,h3,h4⟩
structure lJ(h:Heap)(u:Value)(cs:List Cell):Prop where
 ex:∃(a:Addr)(o:Obj)(us:Array Value)(n:Nat),u=.ref a/\h.get? a=some o/\o.cls=.type "list" /\ o.data=.seq us n/\us.size=cs.length/\∀ j (h1:j<us.size) (h2:j<cs.length),iK h us[j] cs[j]
theorem lJ.keep{h h':Heap}{u:Value}{cs:List Cell}(e:lJ h u cs)(k:Keeps h h'):lJ h' u cs:=by
 obtain⟨a,o,us,n,h1,h2,h3,h4,h5,h6⟩:=e.ex
 exact⟨a,o,us,n,h1,k _ _ h2,h3,h4,h5,fun j g1 g2=>(h6 j g1 g2).keep k⟩
section
variable{A:Around}{s:Shared}
theorem HN{x y:Value}{c d:Cell}(hx:iK s.heap x c)(hy:iK s.heap y d)(hu:A.units<cLine):EqAt A s x y (decide (c=d)):=by
 obtain⟨a,o,t,t',n,rfl,h2,h3,h4⟩:=hx.ex
 obtain⟨b,o',u,u',m,rfl,g2,g3,g4⟩:=hy.ex
 by_cases e:a=b
 ·subst e
  rw[h2] at g2
  cases g2
  rw[h4] at g4
  have e1:c=d:=by
   injection g4 with g5 _
   have g6:[Value.int c.1 t,Value.int c.2 t']=[Value.int d.1 u,Value.int d.2 u']:=congrArg Array.toList g5
   injection g6 with a1 a2
   injection a2 with a2 _
   injection a1 with a1 _
   injection a2 with a2 _
   exact Prod.ext a1 a2
  rw[decide_eq_true e1]
  exact EqAt.same _
 ·have key:=EqAt.of_refs e (RcAt.tuples (e:=fun j=>if j=0 then c.1==d.1 else c.2==d.2) ⟨o,h2,h3,n,h4⟩ ⟨o',g2,g3,m,g4⟩ hu fun j j1 j2=>?_)
  ·have:((List.range (min (#[Value.int c.1 t,Value.int c.2 t']:Array Value).size (#[Value.int d.1 u,Value.int d.2 u']:Array Value).size)).all (fun j=>if j=0 then c.1==d.1 else c.2==d.2)&&(#[Value.int c.1 t,Value.int c.2 t']:Array Value).size==(#[Value.int d.1 u,Value.int d.2 u']:Array Value).size)=decide (c=d):=by
    show((List.range 2).all (fun j=>if j=0 then c.1==d.1 else c.2==d.2)&&true)=_
    have:List.range 2=[0,1]:=rfl
    rw[this]
    simp only[List.all_cons,List.all_nil,if_pos,Bool.and_true]
    rw[Bool.eq_iff_iff]
    simp[Prod.ext_iff]
   rw[this] at key
   exact key
  ·match j,j1,j2 with
   |0,_,_=>exact fun prog w E Q h=>wpAny_eqBool_int h
   |1,_,_=>exact fun prog w E Q h=>wpAny_eqBool_int h
   |j+2,j1,_=>exact absurd j1 (by simp)
theorem Ik{x y:Value}{c d:Cell}(hx:iK s.heap x c)(hy:iK s.heap y d)(hu:A.units<cLine):RX A s x y (fW c d):=by
 obtain⟨a,o,t,t',n,rfl,h2,h3,h4⟩:=hx.ex
 obtain⟨b,o',u,u',m,rfl,g2,g3,g4⟩:=hy.ex
 obtain⟨oc,od,of,os⟩:=o
 obtain⟨oc',od',of',os'⟩:=o'
 dsimp only at h3 h4 g3 g4
 subst h3 h4 g3 g4
 intro prog w E Q q
 refine richCompare_meets_room (op:=.Lt) ⟨_,h2,rfl⟩ ⟨_,g2,rfl⟩ PySem.F.slot_tuple_lt PySem.F.entry_tuple_lt (PySem.F.args_tuple_lt_2 _ _) (Pr a b c.1 c.2 d.1 d.2 t t' u u' n m od od' os os') ⟨h2,g2,?_⟩ hu
 exact(show Value.bool (fW c d)≠Value.notImplemented/\Q (.bool (fW c d)) s from⟨(fun z=>nomatch z),q⟩)
theorem KH{prog:Program}{w:World}{E:Value->Shared->Prop}{x y:Value}{cs ds:List Cell}(hx:lJ s.heap x cs)(hy:lJ s.heap y ds)(hu:A.units+2<cLine){Q:Bool->Shared->Prop}(q:Q (llt cs ds) s):wpAny (model prog w) A (keyLt' oneType' x y) Q E s:=by
 obtain⟨a,o,us,n,rfl,h2,h3,h4,h5,h6⟩:=hx.ex
 obtain⟨b,o',vs,m,rfl,g2,g3,g4,g5,g6⟩:=hy.ex
 obtain⟨oc,od,of,os⟩:=o
 obtain⟨oc',od',of',os'⟩:=o'
 dsimp only at h3 h4 g3 g4
 subst h3 h4 g3 g4
 rw[keyLt'_oneType,oneLt'_eq]
 simp only[if_true]
 refine wpAny_bind (wpAny_cRoomFor (by lia) ?_)
 refine wpAny_bind (wpAny_callSpecialIfBound?_slot (T:="list") ⟨_,h2,rfl⟩ PySem.F.slot_list_lt (call_meets PySem.F.slot_list_lt ⟨_,h2,rfl⟩ PySem.F.entry_list_lt (PySem.F.args_list_lt_2 _ _) (Kz a b us vs n m od od' os os' cs ds h5 g5) ⟨h2,g2,fun j j1 j2 j3 j4=>⟨HN (h6 j j1 j3) (g6 j j2 j4) (by show A.units+1<cLine;lia),Ik (h6 j j1 j3) (g6 j j2 j4) (by show A.units+1<cLine;lia)⟩,?_⟩))
 exact wpAny_truthy_bool q
end
theorem Eb{P:Program}{w:World}{h:Heap}{us:List Value}{rs:List (List Cell)}(hl:us.length=rs.length)(at_:∀ i,i<rs.length->lJ h (us.getD i Value.none) (rs.getD i [])):wF P w h us llt fun i=>rs.getD i []:=by
 refine⟨fun h2=>⟨oneType',fun A' E' s' Q' kp q=>?_,fun A' s' i j C hu kp hi hj hC=>?_⟩⟩
 ·refine kas_kind (T:=.type "list") h2 (fun v hv=>?_) (by decide) (by decide) q
  obtain⟨i,hi,rfl⟩:=List.mem_iff_getElem.mp hv
  have:=at_ i (by lia)
  rw[List.getD_eq_getElem?_getD,List.getElem?_eq_getElem hi] at this
  obtain⟨a,o,us',n,e,h2,h3,_⟩:=this.ex
  have e':us[i]=.ref a:=e
  rw[e']
  refine Looks.keeps ?_ kp
  exact fun A Q E s k q=>wpAny_typeOf ⟨o,k _ _ h2,h3⟩ q
 ·exact KH ((at_ i (by lia)).keep kp) ((at_ j (by lia)).keep kp) hu hC
end L2
namespace L2
open PySem PySem.Spec PyProof.Rows PySem.W
theorem J1{α β:Type}{g:α->β}{l m:List β}(h:l.Perm m):∀ r:List α,m=r.map g->∃ r':List α,r'.Perm r/\l=r'.map g:=by
 induction h with
 |nil=>intro r e;exact⟨[],by cases r<;>simp_all,rfl⟩
 |@cons x l m _ ih=>
  intro r e
  cases r with
  |nil=>simp at e
  |cons a r=>
   rw[List.map_cons] at e
   injection e with e1 e2
   obtain⟨r',p,e3⟩:=ih r e2
   exact⟨a::r',p.cons a,by rw[List.map_cons,<- e1,<- e3]⟩
 |swap x y l=>
  intro r e
  match r,e with
  |a::b::r,e=>
   rw[List.map_cons,List.map_cons] at e
   injection e with e1 e2
   injection e2 with e2 e3
   exact⟨b::a::r,.swap _ _ _,by rw[List.map_cons,List.map_cons,<- e1,<- e2,<- e3]⟩
 |trans _ _ ih1 ih2=>
  intro r e
  obtain⟨r2,p2,e2⟩:=ih2 r e
  obtain⟨r1,p1,e1⟩:=ih1 r2 e2
  exact⟨r1,p1.trans p2,e1⟩
section
variable{prog:Program}{w:World}{A:Around}{E:Value->Shared->Prop}{s:Shared}{α:Type}
def uw(vs:List Value)(f:Nat->α):Prop:=∀ i j,i<vs.length->j<vs.length->vs.getD i Value.none=vs.getD j Value.none->f i=f j
open Classical in
noncomputable def Te(vs:List Value)(f:Nat->α)(x:Keyed):α:=f (Classical.epsilon fun i=>i<vs.length/\vs.getD i Value.none=x.1)
theorem tV{vs:List Value}{f:Nat->α}(h1:uw vs f){i:Nat}(hi:i<vs.length){v:Value}:Te vs f (vs.getD i Value.none,v)=f i:=by
 unfold Te
 have h:=Classical.epsilon_spec (p:=fun j=>j<vs.length/\vs.getD j Value.none=vs.getD i Value.none) ⟨i,hi,rfl⟩
 exact h1 _ _ h.1 hi h.2
theorem Od{vs:List Value}{κ:SortKind}{lt:α->α->Bool}{f:Nat->α}(o:fJ lt)(h1:uw vs f)
  (XJ:∀ i j (C:Bool->Shared->Prop),i<vs.length->j<vs.length->C (lt (f i) (f j)) s->wpAny (model prog w) A (keyLt' κ (vs.getD i Value.none) (vs.getD j Value.none)) C (fun _ _=>False) s) :
  wpAny (model prog w) A (sortRuns'.run (SortSt.mk' κ (vs.toArray.zip vs.toArray) #[] 7 none)) (fun r s'=>s'=s/\∃ p,Good vs.length p/\jm lt f p vs.length/\(arrOf r.2).map (·.2)=(byP vs p).toArray/\failedOf r.2=none) E s:=by
 have ez:(vs.toArray.zip vs.toArray).toList=(List.range vs.length).map fun i=>(vs.getD i Value.none,vs.getD i Value.none):=by
  refine List.ext_getElem? fun i=>?_
  by_cases hi:i<vs.length
  ·simp[hi,List.getD_eq_getElem?_getD,List.getElem?_zip_eq_some]
  ·simp[hi]
 have hz:(vs.toArray.zip vs.toArray).size=vs.length:=by simp
 have e:TS.Env (model prog w) A s κ (Te vs f) lt (vs.toArray.zip vs.toArray):=by
  refine⟨o,fun x y hx hy C hC=>?_⟩
  rw[ez] at hx hy
  obtain⟨i,hi,rfl⟩:=List.mem_map.mp hx
  obtain⟨j,hj,rfl⟩:=List.mem_map.mp hy
  have hi':=List.mem_range.mp hi
  have hj':=List.mem_range.mp hj
  rw[tV h1 hi',tV h1 hj'] at hC
  exact XJ i j C hi' hj' hC
 refine TS.Ra (Q:=fun _ st=>∃ p,Good vs.length p/\jm lt f p vs.length/\(arrOf st).map (·.2)=(byP vs p).toArray/\failedOf st=none) e rfl rfl rfl rfl fun st' hp hf hs=>?_
 have hp':=hp.toList
 rw[ez] at hp'
 obtain⟨r,pr,er⟩:=J1 hp' _ rfl
 have gd:Good vs.length r.toArray:=⟨by simpa using pr⟩
 have elr:∀ i,(hi:i<r.length)->TS.el (arrOf st') i=(vs.getD r[i] Value.none,vs.getD r[i] Value.none):=fun i hi=>by
  rw[TS.tO,er,List.getD_eq_getElem?_getD,List.getElem?_map,List.getElem?_eq_getElem hi];rfl
 have hr:r.length=vs.length:=by simpa using pr.length_eq
 refine⟨r.toArray,gd,fun i hi=>?_,?_,hf⟩
 ·have h2:=hs i (i+1) (Nat.zero_le _) (Nat.le_succ _) (by rw[hz];exact hi)
  rw[elr i (by omega),elr (i+1) (by omega)] at h2
  have lt1:r[i]<vs.length:=List.mem_range.mp (pr.mem_iff.mp (List.getElem_mem _))
  have lt2:r[i+1]<vs.length:=List.mem_range.mp (pr.mem_iff.mp (List.getElem_mem _))
  rw[tV h1 lt1,tV h1 lt2] at h2
  unfold Ky
  have a1:r.toArray.getD i 0=r[i]:=by
   rw[Array.getD_eq_getD_getElem?,List.getElem?_toArray,List.getElem?_eq_getElem (by omega)];rfl
  have a2:r.toArray.getD (i+1) 0=r[i+1]:=by
   rw[Array.getD_eq_getD_getElem?,List.getElem?_toArray,List.getElem?_eq_getElem (by omega)];rfl
  rw[a1,a2];exact h2
 ·apply Array.toList_inj.mp
  rw[Array.toList_map,er]
  unfold byP
  simp
theorem JB{a:Addr}{vs:List Value}{n:Nat}{h0:Heap}{lt:α->α->Bool}{f:Nat->α}{P:PySem.Fin->Shared->Prop}(o:fJ lt)(h1:uw vs f)(hu:A.units+2<cLine)(hr:wF prog w h0 vs lt f)(hz:vs.length<=sizeLine) (ho:s.heap.get? a=some (seqObj "list" vs.toArray n)) (hk:∀ b o,h0.get? b=some o->s.heap.get? b=some o/\b≠a)
  (h:∀ p,Good vs.length p->jm lt f p vs.length->P (.done (.ret .none)) { s with heap:=sortedHeap s.heap a vs (byP vs p).toArray }):wpAny (model prog w) A (Builtin.«list.sort» ⟨[.ref a],[]⟩) P E s:=by
 by_cases h64:vs.length<64
 ·exact uz o hu hr h64 ho hk h
 rw[list_sort_plain]
 have ha:a<s.heap.objs.size:=Heap.lt_size ho
 refine wpAny_bind (listItems_at ho rfl (wpAny_bind (listUpdate_at ho rfl ?_ (by show vs.toArray.size<=_;rw[List.size_toArray];lia) (by show(#[]:Array Value).size<=_;simp))))
 have ho1:=get?_update_seq ho (fun _=>#[])
 refine wpAny_bind (seqEpoch_at ho1 rfl (wpAny_bind (wpAny_newTuple (wpAny_bind (wpAny_newList (wpAny_holding ?_) (by simp))) (by simpa using hz))))
 show wpAny (model prog w) A _ P E { s with heap:=((s.heap.update a (Obj.mapSeq fun _=>#[])).push (seqObj "tuple" vs.toArray 0)).push (seqObj "list" #[] 0) }
 have ho6:(((s.heap.update a (Obj.mapSeq fun _=>#[])).push (seqObj "tuple" vs.toArray 0)).push (seqObj "list" #[] 0)).get? a=some _:=Heap.get?_push_of_some _ (Heap.get?_push_of_some _ ho1)
 have kp:Keeps h0 (((s.heap.update a (Obj.mapSeq fun _=>#[])).push (seqObj "tuple" vs.toArray 0)).push (seqObj "list" #[] 0)):=fun b o e=>by
  obtain⟨e1,e2⟩:=hk b o e
  refine Heap.get?_push_of_some _ (Heap.get?_push_of_some _ ?_)
  rw[Heap.get?_update_ne _ _ _ _ e2];exact e1
 dsimp only
 have h2:¬vs.toArray.size<2:=by rw[List.size_toArray];lia
 rw[if_neg h2,if_neg h2]
 obtain⟨κ,hkind,hless⟩:=hr.ex (by lia)
 refine wpAny_bind (hkind _ _ _ _ kp ?_)
 refine wpAny_bind (wpAny_mono (Od (κ:=κ) (f:=f) o h1 fun i j C hi hj hC=>hless A _ i j C hu kp hi hj hC) ?_ fun _ _ e=>e)
 rintro⟨⟨⟩,st'⟩ s' ⟨rfl,p,g,u,eo,hf⟩
 dsimp only
 dsimp only at eo hf
 refine wpAny_bind (seqEpoch_at ho6 rfl ?_)
 rw[eo]
 refine wpAny_bind (listUpdate_at ho6 rfl ?_ (by simp) ?_)
 ·rw[hf]
  simp only[bne_self_eq_false,Bool.false_eq_true,if_false]
  exact wpAny_pure (h p g u)
 ·unfold byP
  rw[List.size_toArray,List.length_map,Array.length_toList,g.size];lia
theorem Cq{l:Addr}{vs:List Value}{lt:α->α->Bool}{f:Nat->α}{Q:Value->Shared->Prop}(o:fJ lt)(h1:uw vs f)(hu:A.units+10<cLine)(hr:wF prog w s.heap vs lt f)(hz:vs.length<=sizeLine)(hl:s.heap.IsList l vs.toArray)
  (h:∀ p,Good vs.length p->jm lt f p vs.length->Q (.ref (s.heap.objs.size+1)) { s with heap:=sortedAll s.heap vs (byP vs p).toArray }):wpAny (model prog w) A (call (.builtin "sorted") [.ref l]) Q E s:=by
 refine Calls.call_function_entry kind_sorted plain_sorted entry_sorted (args_sorted1 _) ?_
 unfold Builtin.«sorted»
 refine wpAny_bind (m:=checkCount "sorted" 1 1 _) (wpAny_pure (wpAny_bind (collect_list hl ?_ hz)))
 refine wpAny_bind (wpAny_newList ?_ (by simpa using hz))
 have e1:((s.heap.push (seqObj "list" #[] 0)).update s.heap.objs.size (Obj.mapSeq (·++vs.toArray))).objs.size=s.heap.objs.size+1:=by rw[Heap.size_update,size_push']
 have e2:(((s.heap.push (seqObj "list" #[] 0)).update s.heap.objs.size (Obj.mapSeq (·++vs.toArray))).push (seqObj "list" vs.toArray 0)).get? (s.heap.objs.size+1)=some (seqObj "list" vs.toArray 0):=by
  rw[<- e1];exact Heap.get?_push_size _ rfl
 show wpAny _ _ _ _ _ { s with heap:=((s.heap.push (seqObj "list" #[] 0)).update s.heap.objs.size (Obj.mapSeq (·++vs.toArray))).push (seqObj "list" vs.toArray 0) }
 rw[e1]
 refine wpAny_bind (wpAny_holding (wpAny_call_entry slot_list_sort ⟨_,e2,rfl⟩ entry_list_sort (JB (h0:=s.heap) o h1 (by show A.units+1+1+2<cLine;lia) hr hz e2 (fun b o e=>⟨?_,Nat.ne_of_lt (Nat.lt_succ_of_lt (Heap.lt_size e))⟩) fun p g u=>⟨_,rfl,wpAny_pure ⟨_,rfl,h p g u⟩⟩) (args_list_sort _)))
 have hlt:b<s.heap.objs.size:=Heap.lt_size e
 refine Heap.get?_push_of_some _ ?_
 rw[Heap.get?_update_ne _ _ _ _ (Nat.ne_of_lt hlt)]
 exact Heap.get?_push_of_some _ e
end
end L2
namespace L2
open PySem PySem.Spec PyProof.Rows PySem.W
abbrev oN(cs:List Cell):Dt:=.lst (cs.map ao)
theorem iK.det{h:Heap}{u:Value}{c d:Cell}(x:iK h u c)(y:iK h u d):c=d:=by
 obtain⟨a,o,t,t',n,rfl,h2,h3,h4⟩:=x.ex
 obtain⟨b,o',v,v',m,e,g2,g3,g4⟩:=y.ex
 cases e
 rw[h2] at g2
 cases g2
 rw[h4] at g4
 injection g4 with g5 _
 have g6:[Value.int c.1 t,Value.int c.2 t']=[Value.int d.1 v,Value.int d.2 v']:=congrArg Array.toList g5
 injection g6 with a1 a2
 injection a2 with a2 _
 injection a1 with a1 _
 injection a2 with a2 _
 exact Prod.ext a1 a2
theorem lJ.det{h:Heap}{u:Value}{cs ds:List Cell}(x:lJ h u cs)(y:lJ h u ds):cs=ds:=by
 obtain⟨a,o,us,n,rfl,h2,h3,h4,h5,h6⟩:=x.ex
 obtain⟨b,o',vs,m,e,g2,g3,g4,g5,g6⟩:=y.ex
 cases e
 rw[h2] at g2
 cases g2
 rw[h4] at g4
 injection g4 with g5' _
 subst g5'
 refine List.ext_getElem (by lia) fun i i1 i2=>?_
 exact(h6 i (by lia) i1).det (g6 i (by lia) i2)
section
variable{X:Cx}
theorem QS{pins:List (Addr×Obj)}{σ:L2.St}{H:Hp}{s:Shared}{v:V}{u:Value}{cs:List Cell}(I:Inv X pins σ H s)(d:Den X.K H v (oN cs))(r:RelV v u):lJ s.heap u cs:=by
 cases d with
 |@lst a xs _ h hs=>
  cases r
  obtain⟨its,rv,⟨o,n,e1,e2,_,e3⟩,_⟩:=I.list h
  have hl:its.length=cs.length:=by rw[<- rv.length,hs.length,List.length_map]
  refine⟨a,o,its.toArray,n,rfl,e1,e2,e3,by simpa using hl,fun j j1 j2=>?_⟩
  have jv:j<xs.length:=by rw[rv.length,hl];exact j2
  obtain⟨u',eu,ru⟩:=rv.get (show xs[j]?=some xs[j] from by simp[jv])
  obtain⟨d',ed,dd⟩:=hs.get (show xs[j]?=some xs[j] from by simp[jv])
  rw[List.getElem?_map,List.getElem?_eq_getElem j2] at ed
  cases ed
  have e4:its.toArray[j]=u':=by
   rw[List.getElem?_eq_getElem (by omega)] at eu
   simpa using Option.some.inj eu
  rw[e4]
  exact⟨oY I dd ru⟩
def Hg(rs:List (List Cell)):Prop:=rs.Pairwise fun a b=>llt b a=false
def Ma(K:PySem.W.Frag):List V->Hp->VK->Prop:=fun xs H Q=>∃(p:Addr)(vs:List V)(rs:List (List Cell)),xs=[.ref p]/\SqL K H p vs/\aN K H vs (rs.map oN)/\∀(l:Addr)(o:List Nat),H l=none->o.Perm (List.range vs.length)->Hg (o.map fun i=>rs.getD i [])->Q (.ref l) (upd H l (.lst (o.map fun i=>vs.getD i .non)))
theorem Cy(hu:X.A.units+60<cLine):cA X (.builtin "sorted") (Ma X.K):=by
 intro pins s σ H xs us Q I r h
 obtain⟨p,vs,rs,rfl,hS,D,q⟩:=h
 obtain⟨u,rfl,ru⟩:=vals1 r
 cases ru
 obtain⟨its,rv,pl,hz⟩:=I.list hS
 have hl:its.length=rs.length:=by rw[<- rv.length,D.length,List.length_map]
 have hv:vs.length=its.length:=rv.length
 have at_:∀ i,i<rs.length->lJ s.heap (its.getD i Value.none) (rs.getD i []):=fun i hi=>by
  have hv':i<vs.length:=by lia
  obtain⟨u',eu,ru⟩:=rv.get (show vs[i]?=some vs[i] from by simp[hv'])
  obtain⟨d',ed,dd⟩:=D.get (show vs[i]?=some vs[i] from by simp[hv'])
  rw[List.getElem?_map,List.getElem?_eq_getElem hi] at ed
  cases ed
  rw[List.getD_eq_getElem?_getD,eu,List.getD_eq_getElem?_getD,List.getElem?_eq_getElem hi]
  exact QS I dd ru
 have one:uw its fun i=>rs.getD i []:=fun i j hi hj e=>by
  have a1:=at_ i (by lia)
  have a2:=at_ j (by lia)
  rw[e] at a1
  exact a1.det a2
 refine Cq pF one (by lia) (Eb hl at_) (by lia) pl.isList fun o g up=>?_
 obtain⟨e,he⟩:=sortedAll_at s.heap its (byP its o).toArray
 have hn:H (s.heap.objs.size+1)=none:=I.hok.fresh (Nat.le_succ _)
 have bd:∀ i∈o.toList,i<vs.length:=fun i hi=>by rw[hv];exact List.mem_range.mp (g.perm.mem_iff.mp hi)
 have rv':Vals (o.toList.map fun i=>vs.getD i .non) (byP its o):=uh rv o.toList bd
 have pv:(o.toList.map fun i=>vs.getD i .non).Perm vs:=nH (by rw[hv];exact g.perm)
 have as:Hg (o.toList.map fun i=>rs.getD i []):=by
  unfold Hg
  rw[List.pairwise_iff_getElem]
  intro i j hi hj hij
  rw[List.length_map,Array.length_toList,g.size] at hi hj
  have:=up.le pF (j-i) i (by lia)
  have e1:i+(j-i)=j:=by lia
  rw[e1] at this
  have sz:=g.size
  have a1:Ky (fun i=>rs.getD i []) o i=(o.toList.map fun i=>rs.getD i [])[i]:=by
   unfold Ky
   rw[List.getElem_map,Array.getD_eq_getD_getElem?,Array.getElem?_eq_getElem (by lia)]
   rfl
  have a2:Ky (fun i=>rs.getD i []) o j=(o.toList.map fun i=>rs.getD i [])[j]:=by
   unfold Ky
   rw[List.getElem_map,Array.getD_eq_getD_getElem?,Array.getElem?_eq_getElem (by lia)]
   rfl
  rw[<- a1,<- a2];exact this
 have hz':(o.toList.map fun i=>vs.getD i .non).length<=sizeLine:=by rw[pv.length_eq];exact hz
 exact⟨.ref (s.heap.objs.size+1),upd H (s.heap.objs.size+1) (.lst (o.toList.map fun i=>vs.getD i .non)),I.laid (a:=s.heap.objs.size+1) (o:=.lst (o.toList.map fun i=>vs.getD i .non)) (t':=s.toks) (fun b o q=>sortedAll_old q) (Nat.le_succ _) ⟨hz',byP its o,e,rv',he⟩,rfl,q _ _ hn (by rw[hv];exact g.perm) as⟩
theorem Gd{K:PySem.W.Frag}(hu:X.A.units+60<cLine)(hK:X.K=K:=by rfl):cA X (.builtin "sorted") (Ma K):=by subst hK;exact Cy hu
theorem EY{α:Type}{lt:α->α->Bool}(o:fJ lt):∀ {xs ys:List α},xs.Perm ys->xs.Pairwise (fun a b=>lt b a=false)->ys.Pairwise (fun a b=>lt b a=false)->xs=ys
 |[],ys,p,_,_=>by rw[List.nil_perm.mp p]
 |x::xs,[],p,_,_=>absurd p.length_eq (by simp)
 |x::xs,y::ys,p,hx,hy=>by
  rw[List.pairwise_cons] at hx hy
  have e:x=y:=by
   have h1:x∈y::ys:=p.mem_iff.mp List.mem_cons_self
   have h2:y∈x::xs:=p.mem_iff.mpr List.mem_cons_self
   rcases List.mem_cons.mp h1 with z|z
   ·exact z
   ·rcases List.mem_cons.mp h2 with w|w
    ·exact w.symm
    ·exact o.anti _ _ (hy.1 x z) (hx.1 y w)
  subst e
  rw[EY o ((List.perm_cons x).mp p) hx.2 hy.2]
end
end L2
namespace L2
open PySem PySem.Spec PyProof.Rows PySem.W
inductive cF{α:Type}(R:α->V->Hp->Prop)(H:Hp):List V->List α->Prop
 |nil:cF R H [] []
 |cons {v:V} {a:α} {vs:List V} {xs:List α} (h:R a v H) (t:cF R H vs xs):cF R H (v::vs) (a::xs)
section
variable{α β:Type}{R:α->V->Hp->Prop}{R2:β->V->Hp->Prop}{H H':Hp}
def rP(R:α->V->Hp->Prop):Prop:=∀ a v H H',Same H H'->R a v H->R a v H'
theorem cF.mono(hR:rP R)(s:Same H H'):∀ {vs:List V} {xs:List α},cF R H vs xs->cF R H' vs xs
 |_,_,.nil=>.nil
 |_,_,.cons h t=>.cons (hR _ _ _ _ s h) (t.mono hR s)
theorem cF.length:∀ {vs:List V} {xs:List α},cF R H vs xs->vs.length=xs.length
 |_,_,.nil=>rfl
 |_,_,.cons _ t=>by rw[List.length_cons,List.length_cons,t.length]
theorem cF.append:∀ {vs ws:List V} {xs ys:List α},cF R H vs xs->cF R H ws ys->cF R H (vs++ws) (xs++ys)
 |_,_,_,_,.nil,h=>h
 |_,_,_,_,.cons h t,h2=>.cons h (t.append h2)
theorem cF.get:∀ {vs:List V} {xs:List α} {i:Nat} {v:V},cF R H vs xs->vs[i]?=some v->∃ a,xs[i]?=some a/\R a v H
 |_,_,i,v,.nil,h=>by simp at h
 |_,_,0,v,.cons h t,e=>by simp at e;exact⟨_,rfl,by rw[<- e];exact h⟩
 |_,_,i+1,v,.cons h t,e=>by simp at e;obtain⟨a,ea,r⟩:=t.get e;exact⟨a,by simpa using ea,r⟩
theorem cF.imp{R':α->V->Hp->Prop}(f:∀ a v,R a v H->R' a v H'):∀ {vs:List V} {xs:List α},cF R H vs xs->cF R' H' vs xs
 |_,_,.nil=>.nil
 |_,_,.cons h t=>.cons (f _ _ h) (t.imp f)
theorem cF.JZ{K:PySem.W.Frag}{enc:α->Dt}(f:∀ a v,R a v H->Den K H v (enc a)):∀ {vs:List V} {xs:List α},cF R H vs xs->aN K H vs (xs.map enc)
 |_,_,.nil=>.nil
 |_,_,.cons h t=>.cons (f _ _ h) (t.JZ f)
theorem cF.by{d0:α}:∀ {vs:List V} {xs:List α} (o:List Nat),cF R H vs xs->(∀ i∈o,i<vs.length)->cF R H (o.map fun i=>vs.getD i .non) (o.map fun i=>xs.getD i d0)
 |vs,xs,[],_,_=>.nil
 |vs,xs,i::o,h,hb=>by
  have hi:=hb i List.mem_cons_self
  obtain⟨a,ea,r⟩:=h.get (List.getElem?_eq_getElem hi)
  rw[List.map_cons,List.map_cons]
  refine .cons ?_ (h.by o fun j hj=>hb j (List.mem_cons_of_mem _ hj))
  rw[List.getD_eq_getElem?_getD,List.getD_eq_getElem?_getD,List.getElem?_eq_getElem hi,ea]
  exact r
theorem uJ{J:It}{vs:List V}{xs:List α}{tc:TT}{te:TE}{σ:St}{fin:List V->Hp->Prop}(hR:rP R)(hR2:rP R2)(hJ:lF J H vs)(hx:cF R H vs xs)(hn:xs.length<=sizeLine)(p:α->Bool)(f:α->β)
  (ht:∀ a∈xs,∀ v H',Same H H'->R a v H'->∀ G:Bool->Hp->Prop,(∀ H'',Same H' H''->G (p a) H'')->tc (some v::σ) H' G)
  (hf:∀ a∈xs,p a=true->∀ v H',Same H H'->R a v H'->∀ G:VK,(∀ y H'',Same H' H''->R2 (f a) y H''->G y H'')->te (some v::σ) H' G)
  (hd:∀ ys H',Same H H'->cF R2 H' ys ((xs.filter p).map f)->fin ys H'):∃ W:Nat->Nat->List V->Hp->Prop,(∃ m,W 0 m [] H)/\lD J tc te σ fin W:=by
 have hlv:vs.length=xs.length:=hx.length
 refine Fp (n:=vs.length) (item:=fun i=>vs.getD i .non) (fun i ys H'=>Same H H'/\cF R2 H' ys (((xs.take i).filter p).map f)) (by rw[hlv];exact hn) (fun i ys H' hi r=>hJ.go H' i r.1 hi) (fun i ys H' v H'' hi r y=>?_) (fun ys H' r=>hJ.stop H' r.1)
  (fun i ys H' hi r=>?_) ⟨Same.refl _,.nil⟩ (fun i ys H' hi r G hG=>?_) (fun ys H' r=>?_)
 ·obtain⟨e,e'⟩:=hJ.yld H' i v H'' r.1 hi y
  exact⟨by rw[List.getD_eq_getElem?_getD,e];rfl,e'⟩
 ·rw[r.2.length,List.length_map]
  exact Nat.le_trans (List.length_filter_le _ _) (by rw[List.length_take];exact Nat.min_le_left _ _)
 ·obtain⟨s1,D⟩:=r
  have hi':i<xs.length:=by lia
  have ev:vs[i]?=some (vs.getD i .non):=by simp[List.getD_eq_getElem?_getD,hi]
  obtain⟨d,ed,dv⟩:=hx.get ev
  have ea:d=xs[i]:=by
   rw[List.getElem?_eq_getElem hi'] at ed
   exact(Option.some.inj ed).symm
  subst ea
  have tk:xs.take (i+1)=xs.take i++[xs[i]]:=by rw[List.take_succ,List.getElem?_eq_getElem hi'];rfl
  refine ht xs[i] (List.getElem_mem hi') _ H' s1 (hR _ _ _ _ s1 dv) _ fun H2 s2=>?_
  cases hp:p xs[i] with
  |false=>
   refine nQ (hG _ _ ⟨s1.trans s2,?_⟩)
   rw[tk,List.filter_append,show List.filter p [xs[i]]=[] by simp[hp],List.append_nil]
   exact D.mono hR2 s2
  |true=>
   refine tH (hf xs[i] (List.getElem_mem hi') hp _ H2 (s1.trans s2) (hR _ _ _ _ (s1.trans s2) dv) _ fun y H3 s3 dy=>hG _ _ ⟨(s1.trans s2).trans s3,?_⟩)
   rw[tk,List.filter_append,show List.filter p [xs[i]]=[xs[i]] by simp[hp],List.map_append]
   exact(D.mono hR2 (s2.trans s3)).append (.cons dy .nil)
 ·rw[hlv,List.take_length] at r
  exact hd ys H' r.1 r.2
theorem qG{J:It}{vs:List V}{xs:List α}{te:TE}{σ:St}{fin:List V->Hp->Prop}(hR:rP R)(hR2:rP R2)(hJ:lF J H vs)(hx:cF R H vs xs)(hn:xs.length<=sizeLine)(f:α->β)
  (hf:∀ a∈xs,∀ v H',Same H H'->R a v H'->∀ G:VK,(∀ y H'',Same H' H''->R2 (f a) y H''->G y H'')->te (some v::σ) H' G)
  (hd:∀ ys H',Same H H'->cF R2 H' ys (xs.map f)->fin ys H'):∃ W:Nat->Nat->List V->Hp->Prop,(∃ m,W 0 m [] H)/\lD J Jp te σ fin W:=
 uJ hR hR2 hJ hx hn (fun _=>true) f (fun a _ v H' _ _ G hG=>hG H' (Same.refl _)) (fun a ha _=>hf a ha) fun ys H' s D=>hd ys H' s (by rw[List.filter_eq_self.mpr (fun _ _=>rfl)] at D;exact D)
end
def del(q:Addr)(H:Hp):Hp:=fun b=>if b=q then none else H b
theorem uO{q b:Addr}{H:Hp}(n:b≠q):del q H b=H b:=if_neg n
theorem iT{q:Addr}{H:Hp}:Same (del q H) H:=fun b o e=>by
 unfold del at e
 by_cases h:b=q
 ·rw[if_pos h] at e;cases e
 ·rwa[if_neg h] at e
theorem SameBut.del{q:Addr}{H H':Hp}(s:SameBut q H H'):Same (L2.del q H) (L2.del q H'):=fun b o e=>by
 by_cases h:b=q
 ·subst h;unfold L2.del at e;rw[if_pos rfl] at e;cases e
 ·rw[uO h] at e ⊢;exact s _ _ e h
theorem Same.del{q:Addr}{H H':Hp}(s:Same H H'):Same (L2.del q H) (L2.del q H'):=(s.but q).del
theorem Same.into{q:Addr}{H H':Hp}(s:Same H H')(n:H q=none):Same H (L2.del q H'):=fun b o e=>by
 rw[uO (bG e n)];exact s _ _ e
section
variable{K:PySem.W.Frag}{q:Addr}{H:Hp}{l:List V}
theorem Og:SameBut q H (del q H):=fun b o e n=>by rw[uO n];exact e
theorem CW{p:Addr}{cs:List Cell}(hq:H q=some (.lst l))(n:p≠q)(h:Ls K H p (cs.map ao)):Ls K (del q H) p (cs.map ao):=Og.ls hq n h
end
def dI(K:PySem.W.Frag)(H0:Hp)(r:List Cell)(v:V)(H:Hp):Prop:=∃ a,v=.ref a/\H0 a=none/\Ls K H a (r.map ao)
theorem dI.stays{K:PySem.W.Frag}{H0:Hp}:rP (dI K H0):=fun r v H H' s h=>by
 obtain⟨a,e,n,l⟩:=h
 exact⟨a,e,n,l.mono s⟩
theorem dI.den{K:PySem.W.Frag}{H0 H:Hp}{r:List Cell}{v:V}(h:dI K H0 r v H):Den K H v (oN r):=by
 obtain⟨a,rfl,n,l⟩:=h
 exact l.den
theorem wO{K:PySem.W.Frag}{H:Hp}:∀ {vs:List V} {cs ds:List Cell},aN K H vs (cs.map ao)->aN K H vs (ds.map ao)->cs=ds
 |[],[],[],_,_=>rfl
 |v::vs,c::cs,d::ds,.cons h t,.cons h' t'=>by
  obtain⟨a,rfl,_,e⟩:=dD h
  obtain⟨b,e1,_,e'⟩:=dD h'
  cases e1
  rw[e] at e'
  injection e' with e'
  injection e' with e'
  injection e' with e1 e2
  injection e2 with e2 _
  injection e1 with e1
  injection e2 with e2
  rw[wO t t',show c=d from Prod.ext e1 e2]
theorem dI.det{K:PySem.W.Frag}{H0 H:Hp}{r r':List Cell}{v:V}(h:dI K H0 r v H)(h':dI K H0 r' v H):r=r':=by
 obtain⟨a,rfl,n,xs,e,D⟩:=h
 obtain⟨b,e1,n',xs',e',D'⟩:=h'
 cases e1
 rw[e] at e'
 cases e'
 exact wO D D'
end L2
set_option maxHeartbeats 4000000
namespace My
open PySem L2
def top(i:Nat):Stmt:=PySem.Challenge.pw_dampfield_k05_layings_of_parts.main.body.getD i (.Pass ⟨0,0,0,0⟩)
abbrev vM:Stmt:=top 10
theorem Jk:aW ["row","width"] ["row","width"] (aG vM):=⟨rfl,rfl,rfl,by decide +kernel,rfl,by decide +kernel,by decide +kernel⟩
abbrev rB:Stmt:=top 11
theorem Eh:aW ["height","width"] ["height","width"] (aG rB):=⟨rfl,rfl,rfl,by decide +kernel,rfl,by decide +kernel,by decide +kernel⟩
abbrev rC:Stmt:=top 12
theorem Ei:aW ["rows"] ["rows"] (aG rC):=⟨rfl,rfl,rfl,by decide +kernel,rfl,by decide +kernel,by decide +kernel⟩
abbrev gZ:Stmt:=inClass (top 13) 0
theorem rE:aW ["self","rows"] ["self","rows"] (aG gZ):=⟨rfl,rfl,rfl,by decide +kernel,rfl,by decide +kernel,by decide +kernel⟩
abbrev oU:Stmt:=top 14
theorem Bm:aW ["view","cell"] ["view","cell"] (aG oU):=⟨rfl,rfl,rfl,by decide +kernel,rfl,by decide +kernel,by decide +kernel⟩
abbrev mG:Stmt:=top 15
theorem zj:aW ["view","cell"] ["view","cell"] (aG mG):=⟨rfl,rfl,rfl,by decide +kernel,rfl,by decide +kernel,by decide +kernel⟩
abbrev vL:Stmt:=top 16
theorem Jj:aW ["view","cell"] ["view","cell"] (aG vL):=⟨rfl,rfl,rfl,by decide +kernel,rfl,by decide +kernel,by decide +kernel⟩
abbrev zf:Stmt:=top 17
theorem pY:aW ["view","found","row","column"] ["view"] (aG zf):=⟨rfl,rfl,rfl,by decide +kernel,rfl,by decide +kernel,by decide +kernel⟩
abbrev Ef:Stmt:=top 18
theorem ud:aW ["view","cell","found","row","column"] ["view","cell"] (aG Ef):=⟨rfl,rfl,rfl,by decide +kernel,rfl,by decide +kernel,by decide +kernel⟩
abbrev jr:Stmt:=top 19
theorem vP:aW ["view","cell"] ["view","cell"] (aG jr):=⟨rfl,rfl,rfl,by decide +kernel,rfl,by decide +kernel,by decide +kernel⟩
abbrev mH:Stmt:=top 20
theorem zm:aW ["view","cell"] ["view","cell"] (aG mH):=⟨rfl,rfl,rfl,by decide +kernel,rfl,by decide +kernel,by decide +kernel⟩
abbrev vK:Stmt:=top 21
theorem Ji:aW ["view"] ["view"] (aG vK):=⟨rfl,rfl,rfl,by decide +kernel,rfl,by decide +kernel,by decide +kernel⟩
abbrev Ed:Stmt:=top 22
theorem QW:aW ["view"] ["view"] (aG Ed):=⟨rfl,rfl,rfl,by decide +kernel,rfl,by decide +kernel,by decide +kernel⟩
abbrev vN:Stmt:=top 25
theorem iJ:aW ["view","cell","found","waiting","member","teller","other"] ["view","cell"] (aG vN):=⟨rfl,rfl,rfl,by decide +kernel,rfl,by decide +kernel,by decide +kernel⟩
abbrev rA:Stmt:=top 26
theorem j9:aW ["view","last","found","teller","around","behind"] ["view","last"] (aG rA):=⟨rfl,rfl,rfl,by decide +kernel,rfl,by decide +kernel,by decide +kernel⟩
abbrev oV:Stmt:=top 27
theorem mK:aW ["laying","asked","demand","stones"] ["laying","asked"] (aG oV):=⟨rfl,rfl,rfl,by decide +kernel,rfl,by decide +kernel,by decide +kernel⟩
abbrev rD:Stmt:=top 28
theorem g8:aW ["view","cell","part","begun","member","asked","both"] ["view","cell"] (aG rD):=⟨rfl,rfl,rfl,by decide +kernel,rfl,by decide +kernel,by decide +kernel⟩
abbrev j6:Stmt:=top 30
theorem tL:aW ["script","k"] ["script","k"] (aG j6):=⟨rfl,rfl,rfl,by decide +kernel,rfl,by decide +kernel,by decide +kernel⟩
abbrev oR:Stmt:=top 31
theorem jj:aW ["cell","k","many","some","stir"] ["cell","k","many"] (aG oR):=⟨rfl,rfl,rfl,by decide +kernel,rfl,by decide +kernel,by decide +kernel⟩
abbrev mF:Stmt:=top 32
theorem gF:aW ["height","width","cell","found","dr","dc","one"] ["height","width","cell"] (aG mF):=⟨rfl,rfl,rfl,by decide +kernel,rfl,by decide +kernel,by decide +kernel⟩
abbrev kO:Stmt:=top 33
theorem wC:aW ["rows"] ["rows"] (aG kO):=⟨rfl,rfl,rfl,by decide +kernel,rfl,by decide +kernel,by decide +kernel⟩
abbrev kE:Stmt:=top 34
theorem gQ:aW ["rows","signs","found","r"] ["rows","signs"] (aG kE):=⟨rfl,rfl,rfl,by decide +kernel,rfl,by decide +kernel,by decide +kernel⟩
abbrev ig:Stmt:=top 35
theorem c7:aW ["script","most","cell","height","width","thin","stones","r","c"] ["script","most"] (aG ig):=⟨rfl,rfl,rfl,by decide +kernel,rfl,by decide +kernel,by decide +kernel⟩
abbrev jo:Stmt:=top 36
theorem vO:aW ["height","width","stones","cell"] ["height","width","stones","cell"] (aG jo):=⟨rfl,rfl,rfl,by decide +kernel,rfl,by decide +kernel,by decide +kernel⟩
abbrev kJ:Stmt:=top 37
theorem eX:aW ["height","width","stones","known","rows","r","row","c"] ["height","width","stones","known"] (aG kJ):=⟨rfl,rfl,rfl,by decide +kernel,rfl,by decide +kernel,by decide +kernel⟩
abbrev jq:Stmt:=top 38
theorem fH:aW ["height","width","stones","known","cell","found","at"] ["height","width","stones","known","cell"] (aG jq):=⟨rfl,rfl,rfl,by decide +kernel,rfl,by decide +kernel,by decide +kernel⟩
abbrev j8:Stmt:=top 39
theorem bA:aW ["script","most","steps","height","width","stones","known","free","r","k","left","cell"] ["script","most","steps"] (aG j8):=⟨rfl,rfl,rfl,by decide +kernel,rfl,by decide +kernel,by decide +kernel⟩
abbrev iu:Stmt:=top 40
theorem dH:aW ["script","rows","cell","r","c","sign","line"] ["script","rows"] (aG iu):=⟨rfl,rfl,rfl,by decide +kernel,rfl,by decide +kernel,by decide +kernel⟩
abbrev mD:Stmt:=top 41
theorem fQ:aW ["rows","height","width","hidden","found","cell"] ["rows"] (aG mD):=⟨rfl,rfl,rfl,by decide +kernel,rfl,by decide +kernel,by decide +kernel⟩
abbrev kI:Stmt:=top 42
theorem bI:aW ["rows","height","width","verge","name","k","cell","one","some","found"] ["rows"] (aG kI):=⟨rfl,rfl,rfl,by decide +kernel,rfl,by decide +kernel,by decide +kernel⟩
abbrev j7:Stmt:=top 43
theorem aM:aW ["rows","part","height","width","told","one","some","found","k","cell","longer","row","good","figure_v","many","rest"] ["rows","part"] (aG j7):=⟨rfl,rfl,rfl,by decide +kernel,rfl,by decide +kernel,by decide +kernel⟩
abbrev oO:Stmt:=top 45
theorem mJ:aW ["view","cell","e"] ["view","cell"] (aG oO):=⟨rfl,rfl,rfl,by decide +kernel,rfl,by decide +kernel,by decide +kernel⟩
abbrev Mz:Stmt:=top 46
theorem eY:aW ["script","rows","signs","view","height","width","cell","place","rim","own","due","lap","found","row"] ["script"] (aG Mz):=⟨rfl,rfl,rfl,by decide +kernel,rfl,by decide +kernel,by decide +kernel⟩
structure Adr where
 FieldError:Addr
 BadView:Addr
 NoCell:Addr
 TooGreat:Addr
 View:Addr
structure Txt(K:PySem.W.Frag)(mg:Str->Option Value)(Z:Adr):Prop where
 Fd:mg "all" = none
 lM:mg "enumerate" = none
 Fe:mg "int" = none
 fK:mg "isinstance" = none
 cG:mg "len" = none
 uD:mg "list" = none
 Jz:mg "max" = none
 Fg:mg "min" = none
 dw:mg "range" = none
 Ri:mg "set" = none
 lN:mg "sorted" = none
 Rj:mg "str" = none
 Fi:mg "tuple" = none
 gk:∃ t,mg "MOST_ROWS" = some (.int 6 t)
 dF:∃ t,mg "MOST_COLUMNS" = some (.int 6 t)
 eO:∃ t,mg "CLOSED_SIGN" = some (.str "#" t)
 nu:∃ t,mg "SIGNS" = some (.str "#012345678" t)
 fM:∃ t,mg "MOST_CELLS" = some (.int 12 t)
 jN:mg "FieldError" = some (.ref Z.FieldError)
 kY:gM K Z.FieldError
 wK:mg "BadView" = some (.ref Z.BadView)
 nO:gM K Z.BadView
 oX:mg "NoCell" = some (.ref Z.NoCell)
 jF:gM K Z.NoCell
 oA:mg "TooGreat" = some (.ref Z.TooGreat)
 gP:gM K Z.TooGreat
 S8:mg "View" = some (.ref Z.View)
 dO:Cls K Z.View
 fG:jJ K Z.View "rows"
 d9:jJ K Z.View "height"
 dU:jJ K Z.View "width"
 Qz:PySem.W.kitOne K (.ref Z.NoCell) (.ref Z.FieldError)=some true
 QB:PySem.W.kitOne K (.ref Z.TooGreat) (.ref Z.FieldError)=some true
 QC:PySem.W.kitOne K (.ref Z.TooGreat) (.ref Z.NoCell)=some false
 M6:PySem.W.kitOne K (.type "list") (.type "list")=some true
 M7:PySem.W.kitOne K (.type "tuple") (.type "tuple")=some true
 q_lt:PySem.W.kitOne K (.type "list") (.type "tuple")=some false
 V3:PySem.W.kitOne K (.type "tuple") (.type "list")=some false
def vV(K:PySem.W.Frag):Sp:=fun vs H Q _=>∃(a:Addr)(ns:List Int)(k:Int),vs=[.ref a,.int k]/\0<=k/\SqL K H a (ns.map V.int)/\∀ r:Int,Q (.int r) H
def Bw:Sp:=fun vs H Q _=>∃(c k m:Int),vs=[.int c,.int k,.int m]/\0<m/\∀(r:Int)(H':Hp),0<=r->r<m->Same H H'->Q (.int r) H'
def rJ(K:PySem.W.Frag):Sp:=fun vs H Q _=>∃(h w:Int)(v:V)(x:Cell),vs=[.int h,.int w,v]/\Den K H v (ao x)/\∀ p H',Fr K H H' p ((aZ h w x).map ao)->Q (.ref p) H'
def qd(K:PySem.W.Frag):Sp:=fun vs H Q _=>∃(p:Addr)(zs:List Str)(w:Nat),vs=[.ref p]/\SqL K H p (zs.map V.str)/\Rect zs w/\∀ t H',Same H H'->SqT K H' t [.int zs.length,.int w]->Q (.ref t) H'
def uf(K:PySem.W.Frag):Sp:=fun vs H Q _=>∃(p:Addr)(zs:List Str)(w:Nat)(sg:Str),vs=[.ref p,.str sg]/\SqL K H p (zs.map V.str)/\Rect zs w/\∀ q H',Fr K H H' q ((bx zs w sg).map ao)->Q (.ref q) H'
section
variable{P:Program}{w:World}{K:PySem.W.Frag}{mg:Str->Option Value}{base:Heap}{Z:Adr}
theorem PJ{f:Addr}{fd:FuncData} (F:Fun K "_law_cell_at" "_law_cell_at" j6 f fd) (T:Txt K mg Z):cu P w K mg base (CXE P w) 1 f fd ["script","k"] (vV K):=by
 refine F.rok tL (fun vs H Q E h=>?_) (fun cdv A outer s H vs Q E hr h=>?_)
 ·obtain⟨a,ns,k,rfl,_⟩:=h;rfl
 ·obtain⟨a,ns,k,rfl,h0,hS,hq⟩:=h
  refine⟨_,(au (dM (bD xR (rv 1) (aK (cN (K:=K)) rfl T.cG bK (aj (rv 0) ak)) (cC _)) (aC (bC (bR (bZ (K:=K)) (rv 0) (rv 1)))) bU) (aC (bC aF))),?_⟩
  refine⟨_,rfl,_,rfl,.inl ⟨a,_,rfl,.inl hS,_,_,rfl,rfl,_,rfl,?_⟩⟩
  refine wA (fun hk=>?_) (fun _=>?_)
  ·have hk':k<ns.length:=by have:=of_decide_eq_true hk;simp only[List.length_map] at this;exact this
   obtain⟨v,e⟩:=Fb h0 hk'
   exact⟨_,rfl,_,rfl,.inl ⟨a,_,_,_,rfl,rfl,hS,e,hq _⟩⟩
  ·exact hq 0
theorem U0{f:Addr}{fd:FuncData} (F:Fun K "_law_mix" "_law_mix" oR f fd) (T:Txt K mg Z):cu P w K mg base (CXE P w) 1 f fd ["cell","k","many"] Bw:=by
 refine F.rok jj (fun vs H Q E h=>?_) (fun cdv A outer s H vs Q E hr h=>?_)
 ·obtain⟨c,k,m,rfl,_⟩:=h;rfl
 ·obtain⟨c,k,m,rfl,hm,hq⟩:=h
  refine⟨_,(au (aL (i:=3) jj.nd rfl (by first|exact Or.inl rfl|exact Or.inr rfl) (cQ (aj aF (aj aF (aj aF (aj aF (aj aF (aj aF (aj aF (aj aF (aj aF (aj aF (aj aF (aj aF (aj aF ak))))))))))))))) (au (aL (i:=4) jj.nd rfl (by first|exact Or.inl rfl|exact Or.inr rfl) (bV aY (bV aY (bV pI (bV aY (bV iY (rv 0) aF) aF) (bR (bZ (K:=K)) (rv 3) (bV iY (rv 1) aF))) (bV pI aF (rv 1))) (bV pI aF (bV Gp (rv 1) aF)))) (au (aL (i:=4) jj.nd rfl (by first|exact Or.inl rfl|exact Or.inr rfl) (bV iY (rv 4) aF)) (aC (bC (bV iY (bV Gp (bV iY (bV aY (bV pI (rv 4) (rv 4)) (bV pI aF (rv 1))) aF) aF) (rv 2))))))),?_⟩
  refine⟨by decide,fun p hp=>?_⟩
  have b0:0<=c%2147483647:=Int.emod_nonneg _ (by decide)
  have b1:c%2147483647<2147483647:=Int.emod_lt_of_pos _ (by decide)
  obtain⟨v,e⟩:=Fb (ns:=[48271,69621,16807,39373,30269,40014,40692,50021,61687,71993,83869,95561,30307]) (i:=k%13) (Int.emod_nonneg _ (by decide)) (Int.emod_lt_of_pos _ (by decide))
  refine⟨_,rfl,_,_,rfl,rfl,(by show(0:Int)<2147483647;decide),_,rfl,_,rfl,_,_,rfl,rfl,(by show(0:Int)<13;decide),.inl ⟨p,_,_,_,rfl,rfl,.of aA,e,.inl ⟨by lia,by lia⟩,?_⟩⟩
  refine⟨_,rfl,.inl ⟨by lia,by lia⟩,?_⟩
  refine⟨_,rfl,_,_,rfl,rfl,⟨by decide,by decide⟩,.inl ⟨by lia,by lia⟩,?_⟩
  refine⟨_,rfl,_,_,rfl,rfl,(by show(0:Int)<1000000007;decide),?_⟩
  refine⟨_,rfl,_,rfl,.inl ⟨by lia,by lia⟩,?_⟩
  refine⟨_,rfl,.inl ⟨by lia,by lia⟩,?_⟩
  refine⟨_,_,rfl,rfl,(by show(0:Int)<1000000007;decide),?_⟩
  refine⟨_,_,rfl,rfl,⟨by decide,by decide⟩,?_⟩
  refine⟨_,rfl,_,_,rfl,rfl,hm,?_⟩
  exact hq _ _ (Int.emod_nonneg _ (by lia)) (Int.emod_lt_of_pos _ hm) (Same.put hp)
theorem PX{f:Addr}{fd:FuncData} (F:Fun K "_law_near" "_law_near" mF f fd) (T:Txt K mg Z):cu P w K mg base (CXE P w) 1 f fd ["height","width","cell"] (rJ K):=by
 refine F.rok gF (fun vs H Q E h=>?_) (fun cdv A outer s H vs Q E hr h=>?_)
 ·obtain⟨h,w,v,x,rfl,_⟩:=h;rfl
 ·obtain⟨h,w,v,x,rfl,dv,hq⟩:=h
  refine⟨_,(au (aL (i:=3) gF.nd rfl (by first|exact Or.inl rfl|exact Or.inr rfl) (cQ ak)) (au (bW PassesOwn.never rfl (aQ (K:=K) (cQ (aj (cZ (aj (Jf rO aF) (aj (Jf rO aF) ak))) (aj (cZ (aj (Jf rO aF) (aj aF ak))) (aj (cZ (aj (Jf rO aF) (aj aF ak))) (aj (cZ (aj aF (aj (Jf rO aF) ak))) (aj (cZ (aj aF (aj aF ak))) (aj (cZ (aj aF (aj (Jf rO aF) ak))) (aj (cZ (aj aF (aj aF ak))) (aj (cZ (aj aF (aj aF ak))) ak)))))))))) (jY rfl (bT (aR (i:=4) gF.nd rfl (by first|exact Or.inl rfl|exact Or.inr rfl)) (bT (aR (i:=5) gF.nd rfl (by first|exact Or.inl rfl|exact Or.inr rfl)) iG))) (au (aL (i:=6) gF.nd rfl (by first|exact Or.inl rfl|exact Or.inr rfl) (cZ (aj (bV aY (bR (bZ (K:=K)) (rv 2) aF) (rv 4)) (aj (bV aY (bR (bZ (K:=K)) (rv 2) aF) (rv 5)) ak)))) (aC (dM (Jh (yX (pW lA xR aF (bR (bZ (K:=K)) (rv 6) aF) (rv 0)) (tZ (pW lA xR aF (bR (bZ (K:=K)) (rv 6) aF) (rv 1))))) (aC (fP (jA (K:=K) PySem.F.plainAttrs_list PySem.F.slot_list_append PySem.F.type_list_append cO (rv 3) (aj (rv 6) ak)))) bU)))) (aC (bC (rv 3))))),?_⟩
  refine aD (fun σ H1=>∃ p,H p=none/\Same H H1/\H1 p=some (.lst [])/\σ=[some (.int h),some (.int w),some v,some (.ref p),none,none,none]) (fun R hR=>?_) ?_
  ·exact⟨by decide,fun p hp=>hR _ _ ⟨p,hp,Same.put hp,aA,rfl⟩⟩
  rintro σ H1 ⟨p,np,s1,hp,rfl⟩
  refine aD (fun σ H3=>∃ v4 v5 v6,Fr K H H3 p ((aZ h w x).map ao)/\σ=[some (.int h),some (.int w),some v,some (.ref p),v4,v5,v6]) (fun R hR=>?_) ?_
  ·refine Kf ?_
   refine gj (K:=K) (-1) (-1) (fun _ q=>⟨_,rfl,q⟩) (fun _ q=>⟨_,rfl,q⟩) fun u1 G1 t1 d1=>?_
   refine gj (K:=K) (-1) 0 (fun _ q=>⟨_,rfl,q⟩) (fun _ q=>q) fun u2 G2 t2 d2=>?_
   refine gj (K:=K) (-1) 1 (fun _ q=>⟨_,rfl,q⟩) (fun _ q=>q) fun u3 G3 t3 d3=>?_
   refine gj (K:=K) 0 (-1) (fun _ q=>q) (fun _ q=>⟨_,rfl,q⟩) fun u4 G4 t4 d4=>?_
   refine gj (K:=K) 0 1 (fun _ q=>q) (fun _ q=>q) fun u5 G5 t5 d5=>?_
   refine gj (K:=K) 1 (-1) (fun _ q=>q) (fun _ q=>⟨_,rfl,q⟩) fun u6 G6 t6 d6=>?_
   refine gj (K:=K) 1 0 (fun _ q=>q) (fun _ q=>q) fun u7 G7 t7 d7=>?_
   refine gj (K:=K) 1 1 (fun _ q=>q) (fun _ q=>q) fun u8 G8 t8 d8=>?_
   refine⟨sz rfl,fun q hq'=>?_⟩
   have t9:=Same.put (o:=.lst [u1,u2,u3,u4,u5,u6,u7,u8]) hq'
   have D:aN K (upd G8 q (.lst [u1,u2,u3,u4,u5,u6,u7,u8])) [u1,u2,u3,u4,u5,u6,u7,u8] (offs.map ao):=by
    have r8:=t9
    have r7:=t8.trans r8
    have r6:=t7.trans r7
    have r5:=t6.trans r6
    have r4:=t5.trans r5
    have r3:=t4.trans r4
    have r2:=t3.trans r3
    have r1:=t2.trans r2
    exact .cons (d1.mono r1) (.cons (d2.mono r2) (.cons (d3.mono r3) (.cons (d4.mono r4) (.cons (d5.mono r5) (.cons (d6.mono r6) (.cons (d7.mono r7) (.cons (d8.mono r8) .nil)))))))
   have tA:=s1.trans (t1.trans (t2.trans (t3.trans (t4.trans (t5.trans (t6.trans (t7.trans (t8.trans t9))))))))
   have hp9:=(t1.trans (t2.trans (t3.trans (t4.trans (t5.trans (t6.trans (t7.trans (t8.trans t9)))))))) _ _ hp
   have nqp:q≠p:=(bG ((t1.trans (t2.trans (t3.trans (t4.trans (t5.trans (t6.trans (t7.trans t8))))))) _ _ hp) hq').symm
   refine⟨q,rfl,⟨_,SqL.of aA⟩,?_⟩
   refine cX (K:=K) (xs:=[u1,u2,u3,u4,u5,u6,u7,u8]) (fun i σ H'=>∃ l v4 v5 v6,SameBut p (upd G8 q (.lst [u1,u2,u3,u4,u5,u6,u7,u8])) H'/\H' p=some (.lst l)/\aN K H' l ((((offs.take i).map fun d=>(x.1+d.1,x.2+d.2)).filter fun y=>decide (inF h w y)).map ao) /\
    σ=[some (.int h),some (.int w),some v,some (.ref p),v4,v5,v6]) ⟨[],none,none,none,.refl _ _,hp9,.nil,rfl⟩ (fun i σ H' _ hh=>?_) (fun i u σ H' hu hh=>?_) (fun σ H' hh=>?_)
   ·obtain⟨l,_,_,_,sb,_⟩:=hh
    exact sb.seq aA nqp
   ·obtain⟨l,v4,v5,v6,sb,hl,Dl,rfl⟩:=hh
    obtain⟨d,ed,du⟩:=D.get hu
    rw[List.getElem?_map] at ed
    obtain⟨o,eo,rfl⟩:=Option.map_eq_some_iff.mp ed
    have dv':Den K H' v (ao x):=sb.cell hp9 (dv.mono tA)
    refine V8 (sb.cell hp9 du) ?_
    refine⟨_,rfl,lZ dv' ⟨_,rfl,_,rfl,m8 dv' ⟨_,rfl,sz rfl,fun t ht=>?_⟩⟩⟩
    have st:=Same.put (o:=.tup [V.int (x.1+o.1),V.int (x.2+o.2)]) ht
    have d1':Den K (upd H' t (.tup [V.int (x.1+o.1),V.int (x.2+o.2)])) (.ref t) (ao (x.1+o.1,x.2+o.2)):=dY
    have tk:offs.take (i+1)=offs.take i++[o]:=by rw[List.take_succ,eo];rfl
    have hll:l.length<=8:=by
     rw[Dl.length,List.length_map]
     refine Nat.le_trans (List.length_filter_le _ _) ?_
     rw[List.length_map,List.length_take]
     exact Nat.min_le_right _ _
    have out:∀ b:Bool,b=decide (inF h w (x.1+o.1,x.2+o.2))->(((offs.take (i+1)).map fun d=>(x.1+d.1,x.2+d.2)).filter fun y=>decide (inF h w y))=(((offs.take i).map fun d=>(x.1+d.1,x.2+d.2)).filter fun y=>decide (inF h w y))++(if b=true then [(x.1+o.1,x.2+o.2)] else []):=by
     intro b hb
     rw[tk,List.map_append,List.filter_append,hb]
     congr 1
     by_cases hin:inF h w (x.1+o.1,x.2+o.2)<;>simp[hin]
    refine⟨_,rfl,lZ d1' ⟨_,_,rfl,rfl,_,rfl,zO (m:=h) (fun _ q=>⟨_,rfl,q⟩) ?_⟩⟩
    have VR:¬inF h w (x.1+o.1,x.2+o.2)->∃ l v4 v5 v6,SameBut p (upd G8 q (.lst [u1,u2,u3,u4,u5,u6,u7,u8])) (upd H' t (.tup [V.int (x.1+o.1),V.int (x.2+o.2)]))/\(upd H' t (.tup [V.int (x.1+o.1),V.int (x.2+o.2)])) p=some (.lst l)/\aN K (upd H' t (.tup [V.int (x.1+o.1),V.int (x.2+o.2)])) l ((((offs.take (i+1)).map fun d=>(x.1+d.1,x.2+d.2)).filter fun y=>decide (inF h w y)).map ao) /\
      [some (.int h),some (.int w),some v,some (.ref p),some (.int o.1),some (.int o.2),some (.ref t)]=[some (.int h),some (.int w),some v,some (.ref p),v4,v5,v6]:=fun hn=>by
     refine⟨l,_,_,_,sb.and ht,st _ _ hl,?_,rfl⟩
     rw[out false (decide_eq_false hn).symm]
     simpa using Dl.mono st
    refine fj (fun h1=>?_) (fun h1=>VR fun hin=>by rw[decide_eq_true hin.1] at h1;cases h1)
    refine⟨_,rfl,m8 d1' ⟨_,_,rfl,rfl,_,rfl,zO (m:=w) (fun _ q=>⟨_,rfl,q⟩) ?_⟩⟩
    refine fj (fun h2=>?_) (fun h2=>VR fun hin=>by rw[decide_eq_true hin.2] at h2;cases h2)
    refine⟨_,rfl,.inl ⟨rfl,_,SqL.of (st _ _ hl)⟩,_,rfl,p,l,_,rfl,rfl,st _ _ hl,ltl (by lia),?_⟩
    refine⟨l++[.ref t],_,_,_,(sb.and ht).put,aA,?_,rfl⟩
    rw[out true (decide_eq_true ⟨of_decide_eq_true h1,of_decide_eq_true h2⟩).symm,List.map_append]
    exact((SameBut.refl p _).put.cells (st _ _ hl) (Dl.mono st)).append (.cons ((SameBut.refl p _).put.cell (st _ _ hl) d1') .nil)
   ·obtain⟨l,v4,v5,v6,sb,hl,Dl,rfl⟩:=hh
    exact hR _ _ ⟨v4,v5,v6,⟨sb.of tA np,np,⟨l,hl,Dl⟩⟩,rfl⟩
  rintro σ H3 ⟨v4,v5,v6,fr,rfl⟩
  exact⟨_,rfl,hq p H3 fr⟩
theorem Li{f:Addr}{fd:FuncData} (F:Fun K "_law_sizes" "_law_sizes" kO f fd) (T:Txt K mg Z):cu P w K mg base (CXE P w) 1 f fd ["rows"] (qd K):=by
 refine F.rok wC (fun vs H Q E h=>?_) (fun cdv A outer s H vs Q E hr h=>?_)
 ·obtain⟨p,zs,w,rfl,_⟩:=h;rfl
 ·obtain⟨p,zs,w,rfl,hS,rc,hq⟩:=h
  obtain⟨z,zt,rfl,hz⟩:=rc.head
  refine⟨_,(aC (bC (cZ (aj (aK (cN (K:=K)) rfl T.cG bK (aj (rv 0) ak)) (aj (aK (cN (K:=K)) rfl T.cG bK (aj (bR (bZ (K:=K)) (rv 0) aF) ak)) ak))))),?_⟩
  have:=rc.w6
  refine⟨_,rfl,.inl ⟨p,_,rfl,.inl hS,_,rfl,.inl ⟨p,_,_,_,rfl,rfl,hS,cW,.inr ⟨z,rfl,small (by lia),sz rfl,fun t ht=>?_⟩⟩⟩⟩
  refine hq t _ (Same.put ht) (SqT.of ?_)
  rw[aA,List.length_map,hz]
end
end My
namespace My
open PySem L2
def Nh(K:PySem.W.Frag):Sp:=fun vs H Q _=>∃(h w:Int)(p:Addr)(v:V)(st:List Cell)(x:Cell),vs=[.int h,.int w,.ref p,v]/\Den K H (.ref p) (.lst (st.map ao))/\Den K H v (ao x)/\∀ H',Same H H'->Q (.int (pB h w st x)) H'
def GK(K:PySem.W.Frag):Sp:=fun vs H Q _=>∃(a:Addr)(ns:List Int)(m:Int),vs=[.ref a,.int m]/\SqL K H a (ns.map V.int)/\1<=m/\m<=6/\∀(t p:Addr)(H':Hp)(h w:Nat)(st:List Cell),Same H H'->H p=none->SqT K H' t [.int h,.int w,.ref p]->Ls K H' p (st.map ao) ->
 1<=h->(h:Int)<=m->1<=w->(w:Int)<=m->st.Sublist (bJ h w)->Q (.ref t) H'
section
variable{P:Program}{w:World}{K:PySem.W.Frag}{mg:Str->Option Value}{base:Heap}{Z:Adr}
theorem Lb{f:Addr}{fd:FuncData} (F:Fun K "_law_cells" "_law_cells" kE f fd) (T:Txt K mg Z):cu P w K mg base (CXE P w) 1 f fd ["rows","signs"] (uf K):=by
 refine F.rok gQ (fun vs H Q E h=>?_) (fun cdv A outer s H vs Q E hr h=>?_)
 ·obtain⟨p,zs,w,sg,rfl,_⟩:=h;rfl
 ·obtain⟨p,zs,w,sg,rfl,hS,rc,hq⟩:=h
  have hu':=tE hr
  have b1:=rc.le
  have b2:=rc.w6
  refine⟨_,(au (aL (i:=2) gQ.nd rfl (by first|exact Or.inl rfl|exact Or.inr rfl) (cQ ak)) (au (bW PassesOwn.never rfl (cP rfl T.dw (aj (aK (cN (K:=K)) rfl T.cG bK (aj (rv 0) ak)) ak)) (aR (i:=3) gQ.nd rfl (by first|exact Or.inl rfl|exact Or.inr rfl)) (aC (aL (i:=2) gQ.nd rfl (by first|exact Or.inl rfl|exact Or.inr rfl) (bV aY (rv 2) (dW (by rfl) rfl (cP rfl T.dw (aj (aK (cN (K:=K)) rfl T.cG bK (aj (bR (bZ (K:=K)) (rv 0) aF) ak)) ak)) (fun _ _ _=>(cL (bD (eV.or (nY (K:=K) hu')) (bR (bZ (K:=K)) (bR (bZ (K:=K)) (rv 1) (rv 4)) (rv 0)) (rv 2) (by rfl)))) (fun _ _ _=>(cZ (aj (rv 4) (aj (rv 0) ak))))))))) (aC (bC (rv 2))))),?_⟩
  refine aD (fun σ H1=>∃ q,Fr K H H1 q []/\σ=[some (.ref p),some (.str sg),some (.ref q),none]) (fun R hR=>?_) ?_
  ·exact⟨by decide,fun q hq'=>hR _ _ ⟨q,⟨Same.put hq',hq',.new hq' .nil⟩,rfl⟩⟩
  rintro σ H1 ⟨q,fr,rfl⟩
  refine aD (fun σ H3=>∃ q v3,Fr K H H3 q ((bx zs w sg).map ao)/\σ=[some (.ref p),some (.str sg),some (.ref q),v3]) (fun R hR=>?_) ?_
  ·refine⟨_,rfl,.inl ⟨p,_,rfl,.inl (fr.same.seq hS),_,rfl,?_⟩⟩
   rw[List.length_map]
   refine⟨by lia,by lia,?_⟩
   refine cR (lo:=0) (n:=((zs.length:Nat):Int).toNat) (fun i σ H'=>∃ q v3,Fr K H H' q ((qD zs w sg i).map ao)/\σ=[some (.ref p),some (.str sg),some (.ref q),v3]) ⟨q,none,fr,rfl⟩ (fun i σ H' hi hh=>?_) (fun σ H' hh=>?_)
   ·obtain⟨q,v3,fr,rfl⟩:=hh
    have hi':i<zs.length:=by lia
    have S':=fr.same.seq hS
    obtain⟨z,zt,ez,hz⟩:=rc.head
    refine⟨_,rfl,_,rfl,.inl ⟨p,_,_,_,rfl,rfl,S',(by rw[ez];exact cW),.inr ⟨z,rfl,small (by lia),_,rfl,by lia,by lia,?_⟩⟩⟩
    rw[hz,Int.toNat_natCast]
    refine bY (K:=K) (xs:=List.range w) (enc:=fun c:Nat=>Dt.int (c:Int)) (sJ w) (aN.nats _) (by rw[List.length_range];exact small (by lia)) (fun c=>inS sg (codeAt zs (i,c))) (fun c:Nat=>ao ((i:Int),(c:Int))) (fun c hc v H2 s2 D G hG=>?_) (fun c hc _ v H2 s2 D G hG=>?_) (fun ys H2 s2 D q2 hq2=>?_)
    ·cases D
     rw[List.mem_range] at hc
     have S2:=s2.seq S'
     refine⟨_,rfl,_,rfl,?_⟩
     rw[Int.zero_add]
     exact yZ S2 hi' ⟨_,rfl,uc S2 rc hi' hc ⟨_,rfl,.inl ⟨_,_,rfl,rfl,_,rfl,hG _ (Same.refl _)⟩⟩⟩
    ·cases D
     refine⟨_,rfl,_,rfl,sz rfl,fun t ht=>hG _ _ (Same.put ht) ?_⟩
     rw[Int.zero_add];exact dY
    ·have l1:=CG zs w sg i
     have l2:((List.range w).filter fun c=>inS sg (codeAt zs (i,c))).length<=w:=Nat.le_trans (List.length_filter_le _ _) (by rw[List.length_range];exact Nat.le_refl _)
     have l3:i*w<=6*6:=Nat.mul_le_mul (by lia) b2
     have sq:=Same.put (o:=.lst ys) hq2
     refine qZ (fr.ls.mono (s2.trans sq)) (Ls.new hq2 D) (by rw[List.length_map,List.length_map];lia) fun r H4 f4=>?_
     refine⟨r,_,⟨fr.same.trans (s2.trans (sq.trans f4.same)),(fr.same.trans (s2.trans sq)).free f4.new,?_⟩,rfl⟩
     rw[rQ,List.map_append,List.map_map];exact f4.ls
   ·obtain⟨q,v3,fr,rfl⟩:=hh
    rw[Int.toNat_natCast] at fr
    exact hR _ _ ⟨q,v3,fr,rfl⟩
  rintro σ H3 ⟨q,v3,fr,rfl⟩
  exact⟨_,rfl,hq q H3 fr⟩
theorem Ir{f:Addr}{fd:FuncData} (F:Fun K "_law_figure" "_law_figure" jo f fd) (T:Txt K mg Z) (bH:Df P w K mg base 1 "_law_near" ["height","width","cell"] (rJ K)):cu P w K mg base (CXE P w) 2 f fd ["height","width","stones","cell"] (Nh K):=by
 refine F.rok vO (fun vs H Q E h=>?_) (fun cdv A outer s H vs Q E hr h=>?_)
 ·obtain⟨h,w,p,v,st,x,rfl,_⟩:=h;rfl
 ·obtain⟨h,w,p,v,st,x,rfl,dp,dv,hq⟩:=h
  have hu':=tE hr
  refine⟨_,(aC (bC (aK (cN (K:=K)) rfl T.cG bK (aj (dW (by rfl) rfl (aQ (K:=K) (aV bH hr rfl aU (aj (rv 0) (aj (rv 1) (aj (rv 3) ak))))) (fun _ _ _=>(cL (bD (eV.or (nY (K:=K) hu')) (rv 0) (rv 3) (by rfl)))) (fun _ _ _=>(rv 0))) ak)))),?_⟩
  refine⟨_,rfl,_,rfl,_,rfl,h,w,v,x,rfl,dv,fun q H1 fr=>?_⟩
  obtain⟨xs,eq,D⟩:=fr.ls
  refine⟨q,rfl,⟨_,SqL.of eq⟩,bY (K:=K) (xs:=aZ h w x) (enc:=ao) (bf (SqL.of eq)) D (small (by have:=cT h w x;lia)) (fun y=>decide (y∈st)) ao (fun y hy v H2 s2 d G hG=>?_) (fun y hy _ v H2 s2 d G hG=>⟨_,rfl,hG _ _ (Same.refl _) d⟩) (fun ys H2 s2 D2 q2 hq2=>?_)⟩
  ·exact⟨_,rfl,_,rfl,.inr (vI d (dp.mono (fr.same.trans s2)) ⟨_,rfl,hG _ (Same.refl _)⟩)⟩
  ·refine .inl ⟨q2,_,rfl,.inl (SqL.of aA),?_⟩
   have e:ys.length=pB h w st x:=by rw[D2.length,List.length_map];rfl
   rw[e]
   exact hq _ (fr.same.trans (s2.and hq2))
end
end My
namespace My
open PySem L2
section
variable{P:Program}{w:World}{K:PySem.W.Frag}{mg:Str->Option Value}{base:Heap}{Z:Adr}
theorem Ld{f:Addr}{fd:FuncData} (F:Fun K "_law_field_by" "_law_field_by" ig f fd) (T:Txt K mg Z) (aP:Df P w K mg base 1 "_law_cell_at" ["script","k"] (vV K)) (bB:Df P w K mg base 1 "_law_mix" ["cell","k","many"] Bw) :
  cu P w K mg base (CXE P w) 2 f fd ["script","most"] (GK K):=by
 refine F.rok c7 (fun vs H Q E h=>?_) (fun cdv A outer s H vs Q E hr h=>?_)
 ·obtain⟨a,ns,m,rfl,_⟩:=h;rfl
 ·obtain⟨a,ns,m,rfl,hS,m1,m6,hq⟩:=h
  have hu:=oG hr
  refine⟨_,(au (aL (i:=2) c7.nd rfl (by first|exact Or.inl rfl|exact Or.inr rfl) (aV aP hr rfl aU (aj (rv 0) (aj aF ak)))) (au (Mv (i:=3) (j:=4) rfl c7.nd rfl rfl (by decide) rfl rfl (aj (bV aY aF (aV bB hr rfl aU (aj (rv 2) (aj aF (aj (rv 1) ak))))) (aj (bV aY aF (aV bB hr rfl aU (aj (rv 2) (aj aF (aj (rv 1) ak))))) ak)) rfl) (au (aL (i:=5) c7.nd rfl (by first|exact Or.inl rfl|exact Or.inr rfl) (bR (bZ (K:=K)) (cQ (aj aF (aj aF (aj aF ak)))) (aV bB hr rfl aU (aj (rv 2) (aj aF (aj aF ak)))))) (au (aL (i:=6) c7.nd rfl (by first|exact Or.inl rfl|exact Or.inr rfl) (cQ ak)) (au (bW PassesOwn.never rfl (cP rfl T.dw (aj (rv 3) ak)) (aR (i:=7) c7.nd rfl (by first|exact Or.inl rfl|exact Or.inr rfl)) (aC (bW PassesOwn.never rfl (cP rfl T.dw (aj (rv 4) ak)) (aR (i:=8) c7.nd rfl (by first|exact Or.inl rfl|exact Or.inr rfl)) (aC (dM (bD (sI.or (rW (K:=K) hu)) (aV bB hr rfl aU (aj (aV aP hr rfl aU (aj (rv 0) (aj (bV aY aF (rv 7)) ak))) (aj (rv 8) (aj (rv 5) ak)))) aF (cC _)) (aC (fP (jA (K:=K) PySem.F.plainAttrs_list PySem.F.slot_list_append PySem.F.type_list_append cO (rv 6) (aj (cZ (aj (rv 7) (aj (rv 8) ak))) ak)))) bU))))) (aC (bC (cZ (aj (rv 3) (aj (rv 4) (aj (rv 6) ak))))))))))),?_⟩
  refine aD (fun σ H1=>∃ c:Int,Same H H1/\σ=[some (.ref a),some (.int m),some (.int c),none,none,none,none,none,none]) (fun R hR=>?_) ?_
  ·exact⟨_,rfl,a,ns,0,rfl,by decide,hS,fun r=>hR _ _ ⟨r,Same.refl _,rfl⟩⟩
  rintro σ H1 ⟨c,s1,rfl⟩
  refine aD (fun σ H2=>∃ h w:Nat,Same H H2/\(1<=h/\(h:Int)<=m)/\(1<=w/\(w:Int)<=m)/\σ=[some (.ref a),some (.int m),some (.int c),some (.int h),some (.int w),none,none,none,none]) (fun R hR=>?_) ?_
  ·refine⟨_,rfl,_,rfl,_,1,_,rfl,by lia,fun r1 H1 a1 b1 t1=>?_⟩
   refine⟨_,rfl,_,rfl,_,2,_,rfl,by lia,fun r2 H2 a2 b2 t2=>?_⟩
   refine⟨_,_,rfl,hR _ _ ⟨(1+r1).toNat,(1+r2).toNat,s1.trans (t1.trans t2),by lia,by lia,?_⟩⟩
   rw[Int.toNat_of_nonneg (by lia),Int.toNat_of_nonneg (by lia)];rfl
  rintro σ H2 ⟨h,w,s2,bh,bw,rfl⟩
  refine aD (fun σ H3=>∃ t:Int,0<t/\Same H H3/\σ=[some (.ref a),some (.int m),some (.int c),some (.int h),some (.int w),some (.int t),none,none,none]) (fun R hR=>?_) ?_
  ·refine⟨sz rfl,fun l hl=>?_⟩
   have t1:=Same.put (o:=.lst [V.int 3,V.int 5,V.int 9]) hl
   refine⟨_,rfl,_,3,3,rfl,by decide,fun r H3 a3 b3 t3=>?_⟩
   obtain⟨v,hv,e⟩:=ou (xs:=([3,5,9]:List Int).map V.int) (i:=r) a3 (by simpa using b3)
   obtain⟨n,hn,rfl⟩:=List.mem_map.mp hv
   refine .inl ⟨l,_,_,_,rfl,rfl,SqL.of (t3 _ _ aA),e,hR _ _ ⟨n,?_,s2.trans (t1.trans t3),rfl⟩⟩
   exact(by decide:∀ x∈([3,5,9]:List Int),0<x) n hn
  rintro σ H3 ⟨t,ht,s3,rfl⟩
  refine aD (fun σ H4=>∃ p,H p=none/\Same H H4/\H4 p=some (.lst [])/\σ=[some (.ref a),some (.int m),some (.int c),some (.int h),some (.int w),some (.int t),some (.ref p),none,none]) (fun R hR=>?_) ?_
  ·exact⟨by decide,fun p hp=>hR _ _ ⟨p,s3.free hp,s3.and hp,aA,rfl⟩⟩
  rintro σ H4 ⟨p,np,s4,hp,rfl⟩
  have h6:h<=6:=by lia
  have w6:w<=6:=by lia
  refine aD (fun σ H5=>∃(st:List Cell)(v7 v8:Option V),Same H H5/\Ls K H5 p (st.map ao)/\st.Sublist (bJ h w)/\σ=[some (.ref a),some (.int m),some (.int c),some (.int h),some (.int w),some (.int t),some (.ref p),v7,v8]) (fun R hR=>?_) ?_
  ·refine⟨_,rfl,_,rfl,by lia,by lia,?_⟩
   rw[Int.toNat_natCast]
   refine cR (lo:=0) (n:=h) (fun i σ H'=>∃(st:List Cell)(v7 v8:Option V),Same H H'/\Ls K H' p (st.map ao)/\st.Sublist (bJ i w)/\σ=[some (.ref a),some (.int m),some (.int c),some (.int h),some (.int w),some (.int t),some (.ref p),v7,v8])
    ⟨[],none,none,s4,⟨[],hp,.nil⟩,List.nil_sublist _,rfl⟩ (fun i σ H' hi hh=>?_) (fun σ H' hh=>hR _ _ hh)
   obtain⟨st,v7,v8,g1,g2,g3,rfl⟩:=hh
   refine⟨_,rfl,_,rfl,by lia,by lia,?_⟩
   rw[Int.toNat_natCast]
   refine cR (lo:=0) (n:=w) (fun j σ H'=>∃(st:List Cell)(v8:Option V),Same H H'/\Ls K H' p (st.map ao)/\st.Sublist (bJ i w++(List.range j).map fun c:Nat=>((i:Int),(c:Int)))/\σ=[some (.ref a),some (.int m),some (.int c),some (.int h),some (.int w),some (.int t),some (.ref p),some (.int (0+i)),v8])
    ⟨st,v8,g1,g2,by simpa using g3,rfl⟩ (fun j σ H' hj hh=>?_) (fun σ H' hh=>?_)
   ·obtain⟨st,v8,g1,g2,g3,rfl⟩:=hh
    have step:bJ i w++(List.range (j+1)).map (fun c:Nat=>((i:Int),(c:Int)))=(bJ i w++(List.range j).map fun c:Nat=>((i:Int),(c:Int)))++[((i:Int),(j:Int))]:=by
     rw[List.range_succ,List.map_append,<- List.append_assoc];rfl
    have hl:=g3.length_le
    rw[List.length_append,eG,List.length_map,List.length_range] at hl
    have hl2:i*w<=6*6:=Nat.mul_le_mul (by lia) w6
    refine⟨_,rfl,_,rfl,a,ns,_,rfl,by lia,g1.seq hS,fun r=>?_⟩
    refine⟨_,rfl,_,rfl,_,_,_,rfl,ht,fun r2 H6 a6 b6 t6=>.inl ⟨rfl,_,rfl,?_⟩⟩
    refine wA (fun _=>?_) (fun _=>?_)
    ·refine⟨_,rfl,.inl ⟨rfl,_,SqL.of (t6 _ _ g2.choose_spec.1)⟩,?_⟩
     obtain⟨xs,ex,D⟩:=g2
     refine⟨_,rfl,_,rfl,sz rfl,fun u hu=>?_⟩
     have su:=Same.put (o:=.tup [V.int (0+i),V.int (0+j)]) hu
     refine⟨p,xs,_,rfl,rfl,su _ _ (t6 _ _ ex),ltl (by rw[D.length,List.length_map];lia),?_⟩
     refine⟨st++[((i:Int),(j:Int))],_,?_,⟨xs++[.ref u],aA,?_⟩,?_,rfl⟩
     ·exact(SameBut.refl p _).put.of (g1.trans (t6.trans su)) np
     ·rw[List.map_append]
      refine((SameBut.refl p _).put.cells (su _ _ (t6 _ _ ex)) ((D.mono t6).mono su)).append (.cons ((SameBut.refl p _).put.cell (su _ _ (t6 _ _ ex)) ?_) .nil)
      rw[Int.zero_add,Int.zero_add];exact dY
     ·rw[step];exact g3.append (List.Sublist.refl _)
    ·refine⟨st,_,g1.trans t6,g2.mono t6,?_,rfl⟩
     rw[step];exact g3.trans (List.sublist_append_left _ _)
   ·obtain⟨st,v8,g1,g2,g3,rfl⟩:=hh
    exact⟨st,_,_,g1,g2,by rw[jR];exact g3,rfl⟩
  rintro σ H5 ⟨st,v7,v8,g1,g2,g3,rfl⟩
  refine⟨_,rfl,_,rfl,_,rfl,sz rfl,fun u hu=>?_⟩
  exact hq u p _ h w st (g1.and hu) np (SqT.of aA) (g2.mono (Same.put hu)) bh.1 bh.2 bw.1 bw.2 g3
end
end My
namespace My
open PySem L2
def GQ(K:PySem.W.Frag):Sp:=fun vs H Q _=>∃(h w:Nat)(p q:Addr)(st kn:List Cell),vs=[.int h,.int w,.ref p,.ref q]/\h<=6/\w<=6/\Den K H (.ref p) (.lst (st.map ao))/\Den K H (.ref q) (.lst (kn.map ao)) /\
 ∀ r H',Same H H'->H r=none->H' r=some (.lst ((rH h w st kn).map V.str))->Q (.ref r) H'
def Bx(K:PySem.W.Frag):Sp:=fun vs H Q _=>∃(h w:Nat)(p q:Addr)(v:V)(st kn:List Cell)(x:Cell),vs=[.int h,.int w,.ref p,.ref q,v]/\h<=6/\w<=6/\Den K H (.ref p) (.lst (st.map ao))/\Den K H (.ref q) (.lst (kn.map ao))/\Den K H v (ao x)/\inF h w x /\
 ∀ r H' (cs:List Cell),Fr K H H' r (cs.map ao)->cs.Nodup->(∀ y,y∈cs↔Reach h w st kn x y)->Q (.ref r) H'
section
variable{P:Program}{w:World}{K:PySem.W.Frag}{mg:Str->Option Value}{base:Heap}{Z:Adr}
theorem Lh{f:Addr}{fd:FuncData} (F:Fun K "_law_shown" "_law_shown" kJ f fd) (T:Txt K mg Z) (eE:Df P w K mg base 2 "_law_figure" ["height","width","stones","cell"] (Nh K)):cu P w K mg base (CXE P w) 3 f fd ["height","width","stones","known"] (GQ K):=by
 refine F.rok eX (fun vs H Q E h=>?_) (fun cdv A outer s H vs Q E hr h=>?_)
 ·obtain⟨h,w,p,q,st,kn,rfl,_⟩:=h;rfl
 ·obtain⟨h,w,p,q,st,kn,rfl,h6,w6,dp,dq,hq⟩:=h
  have hu':=tE hr
  refine⟨_,(au (aL (i:=4) eX.nd rfl (by first|exact Or.inl rfl|exact Or.inr rfl) (cQ ak)) (au (bW PassesOwn.never rfl (cP rfl T.dw (aj (rv 0) ak)) (aR (i:=5) eX.nd rfl (by first|exact Or.inl rfl|exact Or.inr rfl)) (au (aL (i:=6) eX.nd rfl (by first|exact Or.inl rfl|exact Or.inr rfl) gU) (au (bW PassesOwn.never rfl (cP rfl T.dw (aj (rv 1) ak)) (aR (i:=7) eX.nd rfl (by first|exact Or.inl rfl|exact Or.inr rfl)) (aC (aL (i:=6) eX.nd rfl (by first|exact Or.inl rfl|exact Or.inr rfl) (bV aY (rv 6) (bR (bZ (K:=K)) (cQ (aj gU (aj (iZ yC rfl T.Rj S7 (aj (aV eE hr rfl aU (aj (rv 0) (aj (rv 1) (aj (rv 2) (aj (cZ (aj (rv 5) (aj (rv 7) ak))) ak))))) ak)) ak))) (iZ Hj rfl T.Fe Cu (aj (Bf (eV.or (nY (K:=K) hu')) (cZ (aj (rv 5) (aj (rv 7) ak))) (rv 3) (by rfl)) ak))))))) (aC (fP (jA (K:=K) PySem.F.plainAttrs_list PySem.F.slot_list_append PySem.F.type_list_append cO (rv 4) (aj (rv 6) ak))))))) (aC (bC (rv 4))))),?_⟩
  refine aD (fun σ H1=>∃ l,H l=none/\Same H H1/\H1 l=some (.lst [])/\σ=[some (.int h),some (.int w),some (.ref p),some (.ref q),some (.ref l),none,none,none]) (fun R hR=>?_) ?_
  ·exact⟨by decide,fun l hl=>hR _ _ ⟨l,hl,Same.put hl,aA,rfl⟩⟩
  rintro σ H1 ⟨l,nl,s1,hl,rfl⟩
  refine aD (fun σ H2=>∃(v5 v6 v7:Option V),Same H H2/\H2 l=some (.lst ((rH h w st kn).map V.str))/\σ=[some (.int h),some (.int w),some (.ref p),some (.ref q),some (.ref l),v5,v6,v7]) (fun R hR=>?_) ?_
  ·refine⟨_,rfl,_,rfl,by lia,by lia,?_⟩
   rw[Int.toNat_natCast]
   refine cR (lo:=0) (n:=h) (fun i σ H'=>∃(v5 v6 v7:Option V),Same H H'/\H' l=some (.lst (((List.range i).map fun r:Nat=>nR h w st kn (r:Int) w).map V.str))/\σ=[some (.int h),some (.int w),some (.ref p),some (.ref q),some (.ref l),v5,v6,v7])
    ⟨none,none,none,s1,hl,rfl⟩ (fun i σ H' hi hh=>?_) (fun σ H' hh=>hR _ _ hh)
   obtain⟨v5,v6,v7,g1,g2,rfl⟩:=hh
   refine aD (fun σ H3=>Same H H3/\H3 l=some (.lst (((List.range i).map fun r:Nat=>nR h w st kn (r:Int) w).map V.str))/\σ=[some (.int h),some (.int w),some (.ref p),some (.ref q),some (.ref l),some (.int (0+i)),some (.str ""),v7]) (fun R' hR'=>hR' _ _ ⟨g1,g2,rfl⟩) ?_
   rintro σ H3 ⟨k1,k2,rfl⟩
   refine aD (fun σ H4=>∃ v7:Option V,Same H H4/\H4 l=some (.lst (((List.range i).map fun r:Nat=>nR h w st kn (r:Int) w).map V.str))/\σ=[some (.int h),some (.int w),some (.ref p),some (.ref q),some (.ref l),some (.int (0+i)),some (.str (nR h w st kn i w)),v7]) (fun R' hR'=>?_) ?_
   ·refine⟨_,rfl,_,rfl,by lia,by lia,?_⟩
    rw[Int.toNat_natCast]
    refine cR (lo:=0) (n:=w) (fun j σ H'=>∃ v7:Option V,Same H H'/\H' l=some (.lst (((List.range i).map fun r:Nat=>nR h w st kn (r:Int) w).map V.str))/\σ=[some (.int h),some (.int w),some (.ref p),some (.ref q),some (.ref l),some (.int (0+i)),some (.str (nR h w st kn i j)),v7])
     ⟨v7,k1,k2,rfl⟩ (fun j σ H' hj hh=>?_) (fun σ H' hh=>hR' _ _ hh)
    obtain⟨v7,m1,m2,rfl⟩:=hh
    have fl:=FJ h w st (0+(i:Int),0+(j:Int))
    refine⟨_,rfl,_,rfl,_,rfl,_,rfl,_,rfl,_,rfl,sz rfl,fun t ht=>?_⟩
    have st1:=Same.put (o:=.tup [V.int (0+i),V.int (0+j)]) ht
    refine⟨h,w,p,_,st,(0+(i:Int),0+(j:Int)),rfl,dp.mono (m1.trans st1),dY,fun H5 s5=>?_⟩
    refine⟨_,rfl,Oo _ fl,sz rfl,fun u hu=>?_⟩
    have s6:=Same.put (o:=.lst [V.str "#",V.str (Str.ofString (toString ((pB h w st (0+(i:Int),0+(j:Int)):Nat):Int)))]) hu
    refine⟨_,rfl,_,rfl,sz rfl,fun t2 ht2=>?_⟩
    have s7:=Same.put (o:=.tup [V.int (0+i),V.int (0+j)]) ht2
    have sA:=st1.trans (s5.trans (s6.trans s7))
    refine⟨_,rfl,.inr (vI dY (dq.mono (m1.trans sA)) (.inr ⟨_,rfl,?_⟩))⟩
    have e0:((0:Int)+(i:Int),(0:Int)+(j:Int))=((i:Int),(j:Int)):=by rw[Int.zero_add,Int.zero_add]
    have fin:∀ z:Str,z=⟨#[El h w st kn (0+(i:Int),0+(j:Int))]⟩->Bd (.str (nR h w st kn i j)) (.str z) (upd (upd H5 u (.lst [V.str "#",V.str (Str.ofString (toString ((pB h w st (0+(i:Int),0+(j:Int)):Nat):Int)))])) t2 (.tup [V.int (0+i),V.int (0+j)]))
      (fun x H1=>∃ v7:Option V,Same H H1/\H1 l=some (.lst (((List.range i).map fun r:Nat=>nR h w st kn (r:Int) w).map V.str))/\([some (.int h),some (.int w),some (.ref p),some (.ref q),some (.ref l),some (.int (0+i)),some (.str (nR h w st kn i j)),some (.int (0+j))]:L2.St).set 6 (some x)=[some (.int h),some (.int w),some (.ref p),some (.ref q),some (.ref l),some (.int (0+i)),some (.str (nR h w st kn i (j+1))),v7]):=by
     intro z hz
     subst hz
     refine⟨?_,some (.int (0+(j:Int))),m1.trans sA,sA _ _ m2,?_⟩
     ·rw[GD];exact small (by show j+1<=10000;lia)
     ·rw[Mt,<- e0];rfl
    have ed:=dig _ fl
    by_cases hk:(0+(i:Int),0+(j:Int))∈kn
    ·rw[decide_eq_true hk]
     exact .inl ⟨u,_,_,_,rfl,rfl,SqL.of (s7 _ _ aA),eZ (j:=1) rfl,fin _ (by rw[ed];unfold El;rw[if_pos hk])⟩
    ·rw[decide_eq_false hk]
     exact .inl ⟨u,_,_,_,rfl,rfl,SqL.of (s7 _ _ aA),cW,fin _ (by unfold El;rw[if_neg hk];decide)⟩
   rintro σ H4 ⟨v7,m1,m2,rfl⟩
   refine⟨_,rfl,.inl ⟨rfl,_,SqL.of m2⟩,_,rfl,l,_,_,rfl,rfl,m2,ltl (by rw[List.length_map,List.length_map,List.length_range];lia),?_⟩
   refine⟨_,_,_,(SameBut.refl l _).put.of m1 nl,?_,rfl⟩
   rw[aA,List.range_succ,List.map_append,List.map_append];rfl
  rintro σ H2 ⟨v5,v6,v7,g1,g2,rfl⟩
  exact⟨_,rfl,hq l H2 g1 nl g2⟩
end
end My
namespace My
open PySem L2
def BJ(K:PySem.W.Frag):Sp:=fun vs H Q _=>∃(a:Addr)(ns:List Int)(m k:Int),vs=[.ref a,.int m,.int k]/\SqL K H a (ns.map V.int)/\1<=m/\m<=6/\1<=k/\k<=10 /\
 ∀(t r p:Addr)(H':Hp)(h w:Nat)(st kn:List Cell),Same H H'->H r=none->H p=none->SqT K H' t [.ref r,.ref p]->H' r=some (.lst ((rH h w st kn).map V.str))->Ls K H' p (st.map ao) ->
  1<=h->(h:Int)<=m->1<=w->(w:Int)<=m->st.Sublist (bJ h w)->kn.Nodup->(∀ x∈kn,inF h w x/\x∉st)->Q (.ref t) H'
section
variable{P:Program}{w:World}{K:PySem.W.Frag}{mg:Str->Option Value}{base:Heap}{Z:Adr}
theorem Iw{f:Addr}{fd:FuncData} (F:Fun K "_law_opened" "_law_opened" jq f fd) (T:Txt K mg Z) (bH:Df P w K mg base 1 "_law_near" ["height","width","cell"] (rJ K)) (eE:Df P w K mg base 2 "_law_figure" ["height","width","stones","cell"] (Nh K)) :
  cu P w K mg base (CXE P w) 3 f fd ["height","width","stones","known","cell"] (Bx K):=by
 refine F.rok fH (fun vs H Q E h=>?_) (fun cdv A outer s H vs Q E hr h=>?_)
 ·obtain⟨h,w,p,q,v,st,kn,x,rfl,_⟩:=h;rfl
 ·obtain⟨h,w,p,q,v,st,kn,x,rfl,h6,w6,dp,dq,dv,hx,hq⟩:=h
  have hu:=oG hr
  have hu':=tE hr
  refine⟨_,(au (aL (i:=5) fH.nd rfl (by first|exact Or.inl rfl|exact Or.inr rfl) (cQ (aj (rv 4) ak))) (au (aL (i:=6) fH.nd rfl (by first|exact Or.inl rfl|exact Or.inr rfl) aF) (au (Bl PassesOwn.never (bD xR (rv 6) (aK (cN (K:=K)) rfl T.cG bK (aj (rv 5) ak)) (cC _)) (au (dM (bD (sI.or (rW (K:=K) hu)) (aV eE hr rfl aU (aj (rv 0) (aj (rv 1) (aj (rv 2) (aj (bR (bZ (K:=K)) (rv 5) (rv 6)) ak))))) aF (cC _)) (aC (aL (i:=5) fH.nd rfl (by first|exact Or.inl rfl|exact Or.inr rfl) (bV aY (rv 5) (dW (by rfl) rfl (aQ (K:=K) (aV bH hr rfl aU (aj (rv 0) (aj (rv 1) (aj (bR (bZ (K:=K)) (rv 5) (rv 6)) ak))))) (fun _ _ _=>(cL (Jh (yX (bD (fO.or (jz (K:=K) hu')) (rv 0) (rv 4) (by rfl)) (tZ (bD (fO.or (jz (K:=K) hu')) (rv 0) (rv 6) (by rfl))))))) (fun _ _ _=>(rv 0)))))) bU) (aC (aL (i:=6) fH.nd rfl (by first|exact Or.inl rfl|exact Or.inr rfl) (bV aY (rv 6) aF))))) (aC (bC (rv 5)))))),?_⟩
  refine aD (fun σ H1=>∃ l,Fr K H H1 l ([x].map ao)/\σ=[some (.int h),some (.int w),some (.ref p),some (.ref q),some v,some (.ref l),none]) (fun R hR=>?_) ?_
  ·exact⟨_,rfl,sz rfl,fun l hl=>hR _ _ ⟨l,⟨Same.put hl,hl,.new hl (.cons dv .nil)⟩,rfl⟩⟩
  rintro σ H1 ⟨l,fr,rfl⟩
  refine aD (fun σ H2=>Same H1 H2/\σ=[some (.int h),some (.int w),some (.ref p),some (.ref q),some v,some (.ref l),some (.int 0)]) (fun R hR=>hR _ _ ⟨Same.refl _,rfl⟩) ?_
  rintro σ H2 ⟨s2,rfl⟩
  refine aD (fun σ H3=>∃(l:Addr)(cs:List Cell)(v6:Option V),Fr K H H3 l (cs.map ao)/\jg h w st kn x cs cs.length/\σ=[some (.int h),some (.int w),some (.ref p),some (.ref q),some v,some (.ref l),v6]) (fun R hR=>?_) ?_
  ·refine⟨fun m σ H'=>∃(l:Addr)(cs:List Cell)(n:Nat),Fr K H H' l (cs.map ao)/\jg h w st kn x cs n/\m=36-n/\σ=[some (.int h),some (.int w),some (.ref p),some (.ref q),some v,some (.ref l),some (.int n)],
    ⟨36,l,[x],0,⟨fr.same.trans s2,fr.new,fr.ls.mono s2⟩,⟨by simp,List.mem_singleton.mpr rfl,fun y hy=>by rw[List.mem_singleton.mp hy];exact .base,Nat.zero_le _,fun i y hi=>absurd hi (Nat.not_lt_zero _)⟩,rfl,rfl⟩,?_⟩
   rintro m σ H' ⟨l,cs,n,fr,o,rfl,rfl⟩
   obtain⟨xs,ex,D⟩:=id fr.ls
   have lx:xs.length=cs.length:=by rw[D.length,List.length_map]
   have c36:=o.len hx h6 w6
   refine⟨_,rfl,_,rfl,.inl ⟨l,_,rfl,.inl (SqL.of ex),_,_,rfl,rfl,_,rfl,?_⟩⟩
   rw[lx]
   refine wA (fun hlt=>?_) (fun hlt=>?_)
   ·have hn:n<cs.length:=by have:=of_decide_eq_true hlt;lia
    have ec:cs[n]?=some cs[n]:=by simp[hn]
    have exn:xs[n]?=some xs[n]:=by simp[hn,lx]
    have dn:Den K H' xs[n] (ao cs[n]):=by
     obtain⟨d,ed,dd⟩:=D.get exn
     rw[List.getElem?_map,ec] at ed
     cases ed;exact dd
    refine⟨fun σ' H2=>∃(l:Addr)(cs:List Cell),Fr K H H2 l (cs.map ao)/\jg h w st kn x cs (n+1)/\σ'=[some (.int h),some (.int w),some (.ref p),some (.ref q),some v,some (.ref l),some (.int ((n+1:Nat):Int))],fun σ' H2 hh=>?_,?_⟩
    ·obtain⟨l,cs,fr,o,rfl⟩:=hh
     exact⟨36-(n+1),by lia,l,cs,n+1,fr,o,rfl,rfl⟩
    refine aD (fun σ H3=>∃(l:Addr)(cs:List Cell),Fr K H H3 l (cs.map ao)/\jg h w st kn x cs (n+1)/\σ=[some (.int h),some (.int w),some (.ref p),some (.ref q),some v,some (.ref l),some (.int n)]) (fun R' hR'=>?_) ?_
    ·refine⟨_,rfl,_,rfl,_,rfl,_,rfl,_,rfl,.inl ⟨l,_,_,_,rfl,rfl,SqL.of ex,eZ exn,?_⟩⟩
     refine⟨h,w,p,_,st,cs[n],rfl,dp.mono fr.same,dn,fun H3 s3=>.inl ⟨rfl,_,rfl,?_⟩⟩
     rw[JW]
     refine wA (fun hz=>?_) (fun hz=>?_)
     ·have fz:pB h w st cs[n]=0:=by have:=of_decide_eq_true hz;lia
      refine⟨_,rfl,_,rfl,_,rfl,_,rfl,_,rfl,.inl ⟨l,_,_,_,rfl,rfl,SqL.of (s3 _ _ ex),eZ exn,?_⟩⟩
      refine⟨h,w,_,cs[n],rfl,dn.mono s3,fun q4 H4 f4=>?_⟩
      obtain⟨ys,ey,Dy⟩:=f4.ls
      have sA:=fr.same.trans (s3.trans f4.same)
      refine⟨q4,rfl,⟨_,SqL.of ey⟩,bY (K:=K) (xs:=aZ h w cs[n]) (enc:=ao) (bf (SqL.of ey)) Dy (small (by have:=cT h w cs[n];lia)) (fun y=>!decide (y∈kn)&&!decide (y∈cs)) ao (fun y hy u H5 s5 d G hG=>?_) (fun y hy _ u H5 s5 d G hG=>⟨_,rfl,hG _ _ (Same.refl _) d⟩) (fun us H5 s5 D5 q5 hq5=>?_)⟩
      ·have dk:=dq.mono (sA.trans s5)
       have dl:=(fr.ls.mono (s3.trans (f4.same.trans s5))).den
       have hg:=hG H5 (Same.refl _)
       refine⟨_,rfl,_,rfl,.inr (jD d dk ⟨_,rfl,?_⟩)⟩
       by_cases hk:y∈kn
       ·rw[decide_eq_true hk] at hg ⊢
        exact nQ hg
       ·rw[decide_eq_false hk] at hg ⊢
        refine tH ⟨_,rfl,_,rfl,.inr (jD d dl ⟨_,rfl,?_⟩)⟩
        exact hg
      ·have s6:=Same.put (o:=.lst us) hq5
       have nl:((aZ h w cs[n]).filter fun y=>!decide (y∈kn)&&!decide (y∈cs)).length<=8:=Nat.le_trans (List.length_filter_le _ _) (cT h w cs[n])
       refine qZ (fr.ls.mono (s3.trans (f4.same.trans (s5.trans s6)))) (Ls.new hq5 D5) (by rw[List.length_map,List.length_map];lia) fun r H6 f6=>hR' _ _ ⟨r,_,⟨sA.trans (s5.trans (s6.trans f6.same)),(sA.trans (s5.trans s6)).free f6.new,?_⟩,o.grow ec fz,rfl⟩
       rw[List.map_append];exact f6.ls
     ·have fz:pB h w st cs[n]≠0:=fun e=>hz (decide_eq_true (by rw[e];rfl))
      exact hR' _ _ ⟨l,cs,⟨fr.same.trans s3,fr.new,fr.ls.mono s3⟩,o.skip ec fz,rfl⟩
    rintro σ H3 ⟨l,cs,fr,o,rfl⟩
    exact⟨_,rfl,l,cs,fr,o,rfl⟩
   ·have hn:n=cs.length:=by
     have h1:=o.le
     have h2:¬((n:Int)<(cs.length:Int)):=fun z=>hlt (decide_eq_true z)
     lia
    subst hn
    exact hR _ _ ⟨l,cs,_,fr,o,rfl⟩
  rintro σ H3 ⟨l,cs,v6,fr,o,rfl⟩
  exact⟨_,rfl,hq l H3 cs fr o.nd o.done⟩
end
end My
namespace My
open PySem L2
section
variable{P:Program}{w:World}{K:PySem.W.Frag}{mg:Str->Option Value}{base:Heap}{Z:Adr}
def lX(w:Nat)(st:List Cell)(n:Nat):List Cell:=(bJ n w).filter fun y=>!decide (y∈st)
theorem Di(w:Nat)(st:List Cell)(n:Nat):lX w st (n+1)=lX w st n++((List.range w).filter fun c:Nat=>!decide (((n:Int),(c:Int))∈st)).map fun c:Nat=>((n:Int),(c:Int)):=by
 unfold lX
 rw[jR,List.filter_append,List.filter_map];rfl
theorem xG(w:Nat)(st:List Cell)(n:Nat):(lX w st n).length<=n*w:=by
 unfold lX
 exact Nat.le_trans (List.length_filter_le _ _) (by rw[eG];exact Nat.le_refl _)
theorem Iz{f:Addr}{fd:FuncData} (F:Fun K "_law_view_by" "_law_view_by" j8 f fd) (T:Txt K mg Z) (aP:Df P w K mg base 1 "_law_cell_at" ["script","k"] (vV K)) (bB:Df P w K mg base 1 "_law_mix" ["cell","k","many"] Bw)
  (gV:Df P w K mg base 2 "_law_field_by" ["script","most"] (GK K)) (jl:Df P w K mg base 3 "_law_opened" ["height","width","stones","known","cell"] (Bx K)) (jH:Df P w K mg base 3 "_law_shown" ["height","width","stones","known"] (GQ K)) :
  cu P w K mg base (CXE P w) 4 f fd ["script","most","steps"] (BJ K):=by
 refine F.rok bA (fun vs H Q E h=>?_) (fun cdv A outer s H vs Q E hr h=>?_)
 ·obtain⟨a,ns,m,k,rfl,_⟩:=h;rfl
 ·obtain⟨a,ns,m,k,rfl,hS,m1,m6,k1,k10,hq⟩:=h
  have hu:=oG hr
  have hu':=tE hr
  refine⟨_,(au (kh (aV gV hr rfl aU (aj (rv 0) (aj (rv 1) ak))) (jY rfl (bT (aR (i:=3) bA.nd rfl (by first|exact Or.inl rfl|exact Or.inr rfl)) (bT (aR (i:=4) bA.nd rfl (by first|exact Or.inl rfl|exact Or.inr rfl)) (bT (aR (i:=5) bA.nd rfl (by first|exact Or.inl rfl|exact Or.inr rfl)) iG))))) (au (aL (i:=6) bA.nd rfl (by first|exact Or.inl rfl|exact Or.inr rfl) (cQ ak)) (au (aL (i:=7) bA.nd rfl (by first|exact Or.inl rfl|exact Or.inr rfl) (cQ ak)) (au (bW PassesOwn.never rfl (cP rfl T.dw (aj (rv 3) ak)) (aR (i:=8) bA.nd rfl (by first|exact Or.inl rfl|exact Or.inr rfl)) (aC (aL (i:=7) bA.nd rfl (by first|exact Or.inl rfl|exact Or.inr rfl) (bV aY (rv 7) (dW (by rfl) rfl (cP rfl T.dw (aj (rv 4) ak)) (fun _ _ _=>(cL (bD (fO.or (jz (K:=K) hu')) (cZ (aj (rv 9) (aj (rv 0) ak))) (rv 6) (by rfl)))) (fun _ _ _=>(cZ (aj (rv 9) (aj (rv 0) ak))))))))) (au (bW PassesOwn.never rfl (cP rfl T.dw (aj (bV iY (aV aP hr rfl aU (aj (rv 0) (aj aF ak))) (rv 2)) ak)) (aR (i:=9) bA.nd rfl (by first|exact Or.inl rfl|exact Or.inr rfl)) (au (kj (i:=10) bA.nd rfl rfl (by rfl) rfl (aQ (K:=K) (rv 7)) (fun _ _ _=>(cL (bD (fO.or (jz (K:=K) hu')) (rv 0) (rv 7) (by rfl)))) (fun _ _ _=>(rv 0))) (aC (dM (bD lY (aK (cN (K:=K)) rfl T.cG bK (aj (rv 10) ak)) aF (cC _)) (au (aL (i:=11) bA.nd rfl (by first|exact Or.inl rfl|exact Or.inr rfl) (bR (bZ (K:=K)) (rv 10) (aV bB hr rfl aU (aj (aV aP hr rfl aU (aj (rv 0) (aj (bV aY aF (rv 9)) ak))) (aj (rv 9) (aj (aK (cN (K:=K)) rfl T.cG bK (aj (rv 10) ak)) ak)))))) (aC (aL (i:=6) bA.nd rfl (by first|exact Or.inl rfl|exact Or.inr rfl) (bV aY (rv 6) (aV jl hr rfl aU (aj (rv 3) (aj (rv 4) (aj (rv 5) (aj (rv 6) (aj (rv 11) ak)))))))))) bU)))) (aC (bC (cZ (aj (aV jH hr rfl aU (aj (rv 3) (aj (rv 4) (aj (rv 5) (aj (rv 6) ak))))) (aj (rv 5) ak)))))))))),?_⟩
  refine aD (fun σ H1=>∃(p:Addr)(h w:Nat)(st:List Cell),Same H H1/\H p=none/\Ls K H1 p (st.map ao)/\(1<=h/\(h:Int)<=m)/\(1<=w/\(w:Int)<=m)/\st.Sublist (bJ h w) /\
   σ=[some (.ref a),some (.int m),some (.int k),some (.int h),some (.int w),some (.ref p),none,none,none,none,none,none]) (fun R hR=>?_) ?_
  ·exact⟨_,rfl,_,rfl,a,ns,m,rfl,hS,m1,m6,fun t p H' h w st s' np hT lp a1 a2 a3 a4 a5=>⟨t,_,rfl,hT,rfl,_,_,rfl,_,_,rfl,_,_,rfl,rfl,hR _ _ ⟨p,h,w,st,s',np,lp,⟨a1,a2⟩,⟨a3,a4⟩,a5,rfl⟩⟩⟩
  rintro σ H1 ⟨p,h,w,st,s1,np,lp,bh,bw,sub,rfl⟩
  have h6:h<=6:=by lia
  have w6:w<=6:=by lia
  have YM:h*w<=6*6:=Nat.mul_le_mul h6 w6
  refine aD (fun σ H2=>∃ l,Fr K H1 H2 l []/\σ=[some (.ref a),some (.int m),some (.int k),some (.int h),some (.int w),some (.ref p),some (.ref l),none,none,none,none,none]) (fun R hR=>?_) ?_
  ·exact⟨by decide,fun l hl=>hR _ _ ⟨l,⟨Same.put hl,hl,.new hl .nil⟩,rfl⟩⟩
  rintro σ H2 ⟨l,fl,rfl⟩
  refine aD (fun σ H3=>∃ e,Same H2 H3/\Ls K H3 e []/\σ=[some (.ref a),some (.int m),some (.int k),some (.int h),some (.int w),some (.ref p),some (.ref l),some (.ref e),none,none,none,none]) (fun R hR=>?_) ?_
  ·exact⟨by decide,fun e he=>hR _ _ ⟨e,Same.put he,.new he .nil,rfl⟩⟩
  rintro σ H3 ⟨e,s3,le,rfl⟩
  refine aD (fun σ H4=>∃(e:Addr)(v8:Option V),Same H2 H4/\Ls K H4 e ((lX w st h).map ao)/\σ=[some (.ref a),some (.int m),some (.int k),some (.int h),some (.int w),some (.ref p),some (.ref l),some (.ref e),v8,none,none,none]) (fun R hR=>?_) ?_
  ·refine⟨_,rfl,_,rfl,by lia,by lia,?_⟩
   rw[Int.toNat_natCast]
   refine cR (lo:=0) (n:=h) (fun i σ H4=>∃(e:Addr)(v8:Option V),Same H2 H4/\Ls K H4 e ((lX w st i).map ao)/\σ=[some (.ref a),some (.int m),some (.int k),some (.int h),some (.int w),some (.ref p),some (.ref l),some (.ref e),v8,none,none,none]) ⟨e,none,s3,le,rfl⟩ (fun i σ H4 hi hh=>?_) (fun σ H4 hh=>hR _ _ hh)
   obtain⟨e,v8,g1,g2,rfl⟩:=hh
   refine⟨_,rfl,_,rfl,_,rfl,by lia,by lia,?_⟩
   rw[Int.toNat_natCast]
   have e0:∀ c:Nat,((0:Int)+(i:Int),(c:Int))=((i:Int),(c:Int)):=fun c=>by rw[Int.zero_add]
   refine bY (K:=K) (xs:=List.range w) (enc:=fun c:Nat=>Dt.int (c:Int)) (sJ w) (aN.nats _) (by rw[List.length_range];exact small (by lia)) (fun c:Nat=>!decide (((i:Int),(c:Int))∈st)) (fun c:Nat=>ao ((i:Int),(c:Int))) (fun c hc v H5 s5 D G hG=>?_) (fun c hc _ v H5 s5 D G hG=>?_) (fun ys H5 s5 D q5 hq5=>?_)
   ·cases D
    refine⟨_,rfl,_,rfl,sz rfl,fun t ht=>⟨_,rfl,.inr (jD dY (lp.mono (fl.same.trans (g1.trans (s5.and ht)))).den ⟨_,rfl,?_⟩)⟩⟩
    rw[e0];exact hG _ (Same.put ht)
   ·cases D
    refine⟨_,rfl,_,rfl,sz rfl,fun t ht=>hG _ _ (Same.put ht) ?_⟩
    rw[<- e0];exact dY
   ·have l1:=xG w st i
    have l2:((List.range w).filter fun c:Nat=>!decide (((i:Int),(c:Int))∈st)).length<=w:=Nat.le_trans (List.length_filter_le _ _) (by rw[List.length_range];exact Nat.le_refl _)
    have l3:i*w<=6*6:=Nat.mul_le_mul (by lia) w6
    have sq:=Same.put (o:=.lst ys) hq5
    refine qZ (g2.mono (s5.trans sq)) (Ls.new hq5 D) (by rw[List.length_map,List.length_map];lia) fun r H6 f6=>⟨r,_,g1.trans (s5.trans (sq.trans f6.same)),?_,rfl⟩
    rw[Di,List.map_append,List.map_map];exact f6.ls
  rintro σ H4 ⟨e,v8,s4,le4,rfl⟩
  refine aD (fun σ H5=>∃(l:Addr)(kn:List Cell)(v9 v10 v11:Option V),Same H1 H5/\Ls K H5 l (kn.map ao)/\kn.Nodup/\(∀ x∈kn,inF h w x/\x∉st)/\σ=[some (.ref a),some (.int m),some (.int k),some (.int h),some (.int w),some (.ref p),some (.ref l),some (.ref e),v8,v9,v10,v11]) (fun R hR=>?_) ?_
  ·refine⟨_,rfl,a,ns,10,rfl,by decide,(s1.trans (fl.same.trans s4)).seq hS,fun r=>⟨_,rfl,_,_,rfl,rfl,(by lia),?_⟩⟩
   have r0:0<=r%k:=Int.emod_nonneg _ (by lia)
   have r1:r%k<k:=Int.emod_lt_of_pos _ (by lia)
   refine⟨_,rfl,by lia,by lia,?_⟩
   refine cR (lo:=0) (n:=(r%k).toNat) (fun i σ H5=>∃(l:Addr)(kn:List Cell)(v9 v10 v11:Option V),Same H4 H5/\Ls K H5 l (kn.map ao)/\kn.Nodup/\(∀ x∈kn,inF h w x/\x∉st)/\σ=[some (.ref a),some (.int m),some (.int k),some (.int h),some (.int w),some (.ref p),some (.ref l),some (.ref e),v8,v9,v10,v11])
    ⟨l,[],none,none,none,Same.refl _,fl.ls.mono s4,List.nodup_nil,(by intro x hx;cases hx),rfl⟩ (fun i σ H5 hi hh=>?_) (fun σ H5 hh=>?_)
   ·obtain⟨l,kn,v9,v10,v11,g1,g2,nd,g3,rfl⟩:=hh
    have YQ:kn.length<=36:=by
     have:=iW (l2:=bJ h w) nd fun y hy=>eU.mpr (g3 y hy).1
     rw[eG] at this;lia
    have le5:=le4.mono g1
    obtain⟨xs,ex,De⟩:=id le5
    refine aD (fun σ H6=>∃ q,Same H5 H6/\Ls K H6 q (((lX w st h).filter fun y=>!decide (y∈kn)).map ao)/\σ=[some (.ref a),some (.int m),some (.int k),some (.int h),some (.int w),some (.ref p),some (.ref l),some (.ref e),v8,some (.int (0+i)),some (.ref q),v11]) (fun R' hR'=>?_) ?_
    ·refine⟨_,rfl,e,rfl,⟨_,SqL.of ex⟩,bY (K:=K) (xs:=lX w st h) (enc:=ao) (bf (SqL.of ex)) De (small (by have:=xG w st h;lia)) (fun y=>!decide (y∈kn)) ao (fun y hy u H6 s6 d G hG=>?_) (fun y hy _ u H6 s6 d G hG=>⟨_,rfl,hG _ _ (Same.refl _) d⟩) (fun us H6 s6 D6 q6 hq6=>?_)⟩
     ·exact⟨_,rfl,_,rfl,.inr (jD d (g2.mono s6).den ⟨_,rfl,hG _ (Same.refl _)⟩)⟩
     ·exact hR' _ _ ⟨q6,s6.and hq6,.new hq6 D6,rfl⟩
    rintro σ H6 ⟨q,s6,lq,rfl⟩
    obtain⟨ys,ey,Dy⟩:=id lq
    have ly:ys.length=((lX w st h).filter fun y=>!decide (y∈kn)).length:=by rw[Dy.length,List.length_map]
    refine⟨_,rfl,.inl ⟨q,_,rfl,.inl (SqL.of ey),_,_,rfl,rfl,_,rfl,?_⟩⟩
    refine wA (fun hpos=>?_) (fun _=>?_)
    ·have hp':0<ys.length:=by have:=of_decide_eq_true hpos;lia
     refine aD (fun σ H7=>∃(u:V)(x:Cell),Same H6 H7/\Den K H7 u (ao x)/\x∈((lX w st h).filter fun y=>!decide (y∈kn))/\σ=[some (.ref a),some (.int m),some (.int k),some (.int h),some (.int w),some (.ref p),some (.ref l),some (.ref e),v8,some (.int (0+i)),some (.ref q),some u]) (fun R' hR'=>?_) ?_
     ·refine⟨_,rfl,_,rfl,_,rfl,a,ns,_,rfl,by lia,(s1.trans (fl.same.trans (s4.trans (g1.trans s6)))).seq hS,fun r2=>?_⟩
      refine⟨_,rfl,_,rfl,.inl ⟨q,_,rfl,.inl (SqL.of ey),_,_,_,rfl,by lia,fun r3 H7 a7 b7 s7=>?_⟩⟩
      obtain⟨n,rfl⟩:=Int.eq_ofNat_of_zero_le a7
      have hn:n<ys.length:=by lia
      have eyn:ys[n]?=some ys[n]:=by simp[hn]
      obtain⟨d,ed,dd⟩:=Dy.get eyn
      rw[List.getElem?_map] at ed
      obtain⟨x,hx,rfl⟩:=Option.map_eq_some_iff.mp ed
      exact .inl ⟨q,_,_,_,rfl,rfl,SqL.of (s7 _ _ ey),eZ eyn,hR' _ _ ⟨_,x,s7,dd.mono s7,List.mem_of_getElem? hx,rfl⟩⟩
     rintro σ H7 ⟨u,x,s7,du,hx,rfl⟩
     obtain⟨hx1,hx2⟩:=List.mem_filter.mp hx
     have hxk:x∉kn:=by simpa using hx2
     obtain⟨hx3,hx4⟩:=List.mem_filter.mp hx1
     have hxs:x∉st:=by simpa using hx4
     have hxf:inF h w x:=eU.mp hx3
     refine⟨_,rfl,_,rfl,_,rfl,_,rfl,_,rfl,_,rfl,?_⟩
     refine⟨h,w,p,l,u,st,kn,x,rfl,h6,w6,(lp.mono (fl.same.trans (s4.trans (g1.trans (s6.trans s7))))).den,(g2.mono (s6.trans s7)).den,du,hxf,fun r8 H8 cs f8 nd8 Oz=>?_⟩
     have YG:cs.length<=36:=by
      have:=iW (l2:=bJ h w) nd8 fun y hy=>eU.mpr (((Oz y).mp hy).inF hxf)
      rw[eG] at this;lia
     refine qZ (g2.mono (s6.trans (s7.trans f8.same))) f8.ls (by rw[List.length_map,List.length_map];lia) fun r9 H9 f9=>?_
     refine⟨r9,kn++cs,_,_,_,g1.trans (s6.trans (s7.trans (f8.same.trans f9.same))),by rw[List.map_append];exact f9.ls,?_,fun y hy=>?_,rfl⟩
     ·refine List.nodup_append.mpr ⟨nd,nd8,fun y hy z hz e=>?_⟩
      rw[<- e] at hz
      exact((Oz y).mp hz).new hxk hy
     ·rcases List.mem_append.mp hy with z|z
      ·exact g3 y z
      ·exact⟨((Oz y).mp z).inF hxf,((Oz y).mp z).free hxs⟩
    ·exact⟨l,kn,_,_,_,g1.trans s6,g2.mono s6,nd,g3,rfl⟩
   ·obtain⟨l,kn,v9,v10,v11,g1,g2,nd,g3,rfl⟩:=hh
    exact hR _ _ ⟨l,kn,v9,v10,v11,fl.same.trans (s4.trans g1),g2,nd,g3,rfl⟩
  rintro σ H5 ⟨l,kn,v9,v10,v11,s5,lk,nd,hkn,rfl⟩
  refine⟨_,rfl,_,rfl,_,rfl,_,rfl,?_⟩
  refine⟨h,w,p,l,st,kn,rfl,h6,w6,(lp.mono s5).den,lk.den,fun r H6 s6 nr hr6=>⟨_,rfl,sz rfl,fun t ht=>?_⟩⟩
  have s7:=Same.put (o:=.tup [V.ref r,V.ref p]) ht
  exact hq t r p _ h w st kn (s1.trans (s5.trans (s6.trans s7))) ((s1.trans s5).free nr) np (SqT.of aA) (s7 _ _ hr6) (lp.mono (s5.trans (s6.trans s7))) bh.1 bh.2 bw.1 bw.2 sub nd hkn
end
end My
namespace My
open PySem L2
theorem Oh{zs:List Str}{r:Nat}(h:r<=zs.length):uK (zs.map V.str) none (some (r:Int))=(zs.take r).map V.str:=by
 unfold uK
 rw[List.length_map,HT.mz,HT.pX,Nat.min_eq_left h,List.drop_zero,Nat.sub_zero,List.map_take]
theorem Hw{zs:List Str}{r:Nat}(h:r<=zs.length):uK (zs.map V.str) (some (r:Int)) none=(zs.drop r).map V.str:=by
 unfold uK
 rw[List.length_map,HT.mz,HT.pX,Nat.min_eq_left h,List.map_drop]
 exact List.take_of_length_le (by rw[List.length_drop,List.length_map];exact Nat.le_refl _)
theorem Fl{H:Hp}{p l:Addr}{ws us:List Str}{Q:VK}(hp:H p=some (.lst (ws.map V.str)))(hl:H l=some (.lst (us.map V.str)))(hw:ws.length+us.length<=10000)(hq:∀ q,H q=none->Q (.ref q) (upd H q (.lst ((ws++us).map V.str)))):Bd (.ref p) (.ref l) H Q:=
 ⟨_,_,hp,hl,(by rw[List.length_map,List.length_map];exact small hw),fun q h=>by have:=hq q h;rw[List.map_append] at this;exact this⟩
def GR(K:PySem.W.Frag):Sp:=fun vs H Q _=>∃(a p:Addr)(ns:List Int)(zs:List Str)(w:Nat),vs=[.ref a,.ref p]/\SqL K H a (ns.map V.int)/\H p=some (.lst (zs.map V.str))/\Vw zs w /\
 ∀ q zs' H',Same H H'->H' q=some (.lst (zs'.map V.str))->Vw zs' w->zs'.length=zs.length->Q (.ref q) H'
def K7(zs:List Str)(w:Nat):List Cell:=(bx zs w "#").filter fun x=>decide (0<((aZ zs.length w x).filter fun y=>!decide (y∈bx zs w "#")).length)
def En(K:PySem.W.Frag):Sp:=fun vs H Q _=>∃(p:Addr)(zs:List Str)(w:Nat),vs=[.ref p]/\SqL K H p (zs.map V.str)/\Vw zs w/\∀ q H',Fr K H H' q ((K7 zs w).map ao)->Q (.ref q) H'
section
variable{P:Program}{w:World}{K:PySem.W.Frag}{mg:Str->Option Value}{base:Heap}{Z:Adr}
theorem Lj{f:Addr}{fd:FuncData} (F:Fun K "_law_wrong_by" "_law_wrong_by" iu f fd) (T:Txt K mg Z) (aP:Df P w K mg base 1 "_law_cell_at" ["script","k"] (vV K)) (bB:Df P w K mg base 1 "_law_mix" ["cell","k","many"] Bw) :
  cu P w K mg base (CXE P w) 2 f fd ["script","rows"] (GR K):=by
 refine F.rok dH (fun vs H Q E h=>?_) (fun cdv A outer s H vs Q E hr h=>?_)
 ·obtain⟨a,p,ns,zs,w,rfl,_⟩:=h;rfl
 ·obtain⟨a,p,ns,zs,w,rfl,hS,hp,vw,hq⟩:=h
  have hu:=oG hr
  have z6:=vw.le
  have z1:=vw.ne
  have w6:=vw.w6
  have w1:=vw.w1
  obtain⟨z0,zt,ez,hz0⟩:=vw.toRect.head
  refine⟨_,(au (aL (i:=2) dH.nd rfl (by first|exact Or.inl rfl|exact Or.inr rfl) (aV aP hr rfl aU (aj (rv 0) (aj aF ak)))) (au (Mv (i:=3) (j:=4) rfl dH.nd rfl rfl (by decide) rfl rfl (aj (aV bB hr rfl aU (aj (rv 2) (aj aF (aj (aK (cN (K:=K)) rfl T.cG bK (aj (rv 1) ak)) ak)))) (aj (aV bB hr rfl aU (aj (rv 2) (aj aF (aj (aK (cN (K:=K)) rfl T.cG bK (aj (bR (bZ (K:=K)) (rv 1) aF) ak)) ak)))) ak)) rfl) (au (aL (i:=5) dH.nd rfl (by first|exact Or.inl rfl|exact Or.inr rfl) (bR (bZ (K:=K)) gU (aV bB hr rfl aU (aj (rv 2) (aj aF (aj aF ak)))))) (au (dM (bD (Gq.or (Gb (K:=K) hu)) (bV iY (rv 2) aF) aF (cC _)) (aC (bC (rv 1))) bU) (au (aL (i:=6) dH.nd rfl (by first|exact Or.inl rfl|exact Or.inr rfl) (bV aY (bV aY (pN (Kr (K:=K)) (bR (bZ (K:=K)) (rv 1) (rv 3)) pQ (pR (rv 4))) (rv 5)) (pN (Kr (K:=K)) (bR (bZ (K:=K)) (rv 1) (rv 3)) (pR (bV aY (rv 4) aF)) pQ))) (aC (bC (bV aY (bV aY (pN (Kr (K:=K)) (rv 1) pQ (pR (rv 3))) (cQ (aj (rv 6) ak))) (pN (Kr (K:=K)) (rv 1) (pR (bV aY (rv 3) aF)) pQ))))))))),?_⟩
  refine aD (fun σ H1=>∃ c:Int,Same H H1/\σ=[some (.ref a),some (.ref p),some (.int c),none,none,none,none]) (fun R hR=>?_) ?_
  ·exact⟨_,rfl,a,ns,18,rfl,by decide,hS,fun r=>hR _ _ ⟨r,Same.refl _,rfl⟩⟩
  rintro σ H1 ⟨c,s1,rfl⟩
  refine aD (fun σ H2=>∃ i j:Nat,Same H H2/\i<zs.length/\j<w/\σ=[some (.ref a),some (.ref p),some (.int c),some (.int i),some (.int j),none,none]) (fun R hR=>?_) ?_
  ·refine⟨_,rfl,_,rfl,.inl ⟨p,_,rfl,.inl (SqL.of (s1 _ _ hp)),_,1,_,rfl,by rw[List.length_map];lia,fun r1 H2 a2 b2 t2=>?_⟩⟩
   rw[List.length_map] at b2
   refine⟨_,rfl,_,rfl,.inl ⟨p,_,_,_,rfl,rfl,SqL.of (t2 _ _ (s1 _ _ hp)),(by rw[ez];exact cW),.inr ⟨z0,rfl,small (by lia),_,2,_,rfl,by lia,fun r2 H3 a3 b3 t3=>?_⟩⟩⟩
   refine⟨_,_,rfl,hR _ _ ⟨r1.toNat,r2.toNat,s1.trans (t2.trans t3),by lia,by lia,?_⟩⟩
   rw[Int.toNat_of_nonneg a2,Int.toNat_of_nonneg a3];rfl
  rintro σ H2 ⟨i,j,s2,hi,hj,rfl⟩
  refine aD (fun σ H3=>∃ k:Nat,mL k=true/\Same H H3/\σ=[some (.ref a),some (.ref p),some (.int c),some (.int i),some (.int j),some (.str ⟨#[k]⟩),none]) (fun R hR=>?_) ?_
  ·refine⟨_,rfl,_,3,5,rfl,by decide,fun r H3 a3 b3 t3=>?_⟩
   have ml:("#0123" : Str).cps.toList.length=5:=by decide
   obtain⟨k,hk,ek⟩:=ou (xs:=("#0123" : Str).cps.toList) (i:=r) a3 (by rw[ml];exact b3)
   exact .inr (.inr ⟨_,r,k,rfl,rfl,by decide,ek,hR _ _ ⟨k,(by decide:∀ x∈("#0123" : Str).cps.toList,mL x=true) k hk,s2.trans t3,rfl⟩⟩)
  rintro σ H3 ⟨k,hk,s3,rfl⟩
  have p3:=s3 _ _ hp
  refine aD (fun σ H4=>Same H3 H4/\σ=[some (.ref a),some (.ref p),some (.int c),some (.int i),some (.int j),some (.str ⟨#[k]⟩),none]) (fun R hR=>?_) ?_
  ·refine⟨_,rfl,_,_,rfl,rfl,(by show(0:Int)<3;decide),.inl ⟨rfl,_,rfl,?_⟩⟩
   refine wA (fun _=>⟨_,rfl,hq p zs _ s3 p3 vw rfl⟩) (fun _=>hR _ _ ⟨Same.refl _,rfl⟩)
  rintro σ H4 ⟨s4,rfl⟩
  have p4:=s4 _ _ p3
  have er:=vw.toRect.row hi
  have b1:=PySem.Txt.slice_le (zs.getD i Str.empty) none (some (j:Int))
  have b2:=PySem.Txt.slice_le (zs.getD i Str.empty) (some ((j:Int)+1)) none
  refine aD (fun σ H5=>Same H4 H5/\σ=[some (.ref a),some (.ref p),some (.int c),some (.int i),some (.int j),some (.str ⟨#[k]⟩),some (.str (PySem.Txt.slice (zs.getD i Str.empty) none (some (j:Int))++⟨#[k]⟩++PySem.Txt.slice (zs.getD i Str.empty) (some ((j:Int)+1)) none))]) (fun R hR=>?_) ?_
  ·refine⟨_,rfl,_,rfl,.inl ⟨p,_,_,_,rfl,rfl,SqL.of p4,Cp hi,_,rfl,_,rfl,.inr ⟨_,rfl,small (by lia),_,rfl,small (by show _+1<=10000;lia),?_⟩⟩⟩
   refine⟨_,rfl,_,rfl,.inl ⟨p,_,_,_,rfl,rfl,SqL.of p4,Cp hi,_,rfl,_,rfl,.inr ⟨_,rfl,small (by lia),?_,hR _ _ ⟨Same.refl _,rfl⟩⟩⟩⟩
   rw[str_len,qC,List.length_append,<- str_len]
   exact small (by show _+1+_<=10000;lia)
  rintro σ H5 ⟨s5,rfl⟩
  have p5:=s5 _ _ p4
  refine⟨_,rfl,_,rfl,_,rfl,.inl ⟨p,_,rfl,SqL.of p5,fun l1 hl1=>?_⟩⟩
  rw[Oh (by lia)]
  have t1:=Same.put (o:=.lst ((zs.take i).map V.str)) hl1
  refine⟨_,rfl,sz rfl,fun l2 hl2=>?_⟩
  have t2:=Same.put (o:=.lst [V.str (PySem.Txt.slice (zs.getD i Str.empty) none (some (j:Int))++⟨#[k]⟩++PySem.Txt.slice (zs.getD i Str.empty) (some ((j:Int)+1)) none)]) hl2
  refine Fl (ws:=zs.take i) (us:=[PySem.Txt.slice (zs.getD i Str.empty) none (some (j:Int))++⟨#[k]⟩++PySem.Txt.slice (zs.getD i Str.empty) (some ((j:Int)+1)) none]) (t2 _ _ aA) aA (by rw[List.length_take];show _+1<=10000;lia) fun l3 hl3=>?_
  have t3:=Same.put (o:=.lst ((zs.take i++[PySem.Txt.slice (zs.getD i Str.empty) none (some (j:Int))++⟨#[k]⟩++PySem.Txt.slice (zs.getD i Str.empty) (some ((j:Int)+1)) none]).map V.str)) hl3
  have tA:=t1.trans (t2.trans t3)
  refine⟨_,rfl,_,rfl,_,rfl,.inl ⟨p,_,rfl,SqL.of (tA _ _ p5),fun l4 hl4=>?_⟩⟩
  have ec:uK (zs.map V.str) (some ((i:Int)+1)) none=(zs.drop (i+1)).map V.str:=Hw (r:=i+1) (by lia)
  rw[ec]
  have t4:=Same.put (o:=.lst ((zs.drop (i+1)).map V.str)) hl4
  refine Fl (ws:=zs.take i++[PySem.Txt.slice (zs.getD i Str.empty) none (some (j:Int))++⟨#[k]⟩++PySem.Txt.slice (zs.getD i Str.empty) (some ((j:Int)+1)) none]) (us:=zs.drop (i+1)) (t4 _ _ aA) aA
   (by rw[List.length_append,List.length_take,List.length_drop];show _+1+_<=10000;lia) fun q hq'=>?_
  have pv:=V2 (s:=⟨#[k]⟩) vw hi hj rfl (fun x hx=>by rw[show x=k by simpa using hx];exact hk)
  exact hq q _ _ (s3.trans (s4.trans (s5.trans (tA.trans (t4.and hq'))))) aA pv.1 pv.2
theorem PK{f:Addr}{fd:FuncData} (F:Fun K "_law_edge" "_law_edge" mD f fd) (T:Txt K mg Z) (bH:Df P w K mg base 1 "_law_near" ["height","width","cell"] (rJ K)) (bN:Df P w K mg base 1 "_law_sizes" ["rows"] (qd K)) (cJ:Df P w K mg base 1 "_law_cells" ["rows","signs"] (uf K)) :
  cu P w K mg base (CXE P w) 2 f fd ["rows"] (En K):=by
 refine F.rok fQ (fun vs H Q E h=>?_) (fun cdv A outer s H vs Q E hr h=>?_)
 ·obtain⟨p,zs,w,rfl,_⟩:=h;rfl
 ·obtain⟨p,zs,w,rfl,hS,vw,hq⟩:=h
  have hu':=tE hr
  have z6:=vw.le
  have w6:=vw.w6
  have l36:zs.length*w<=6*6:=Nat.mul_le_mul z6 w6
  refine⟨_,(au (kh (aV bN hr rfl aU (aj (rv 0) ak)) (jY rfl (bT (aR (i:=1) fQ.nd rfl (by first|exact Or.inl rfl|exact Or.inr rfl)) (bT (aR (i:=2) fQ.nd rfl (by first|exact Or.inl rfl|exact Or.inr rfl)) iG)))) (au (aL (i:=3) fQ.nd rfl (by first|exact Or.inl rfl|exact Or.inr rfl) (aV cJ hr rfl aU (aj (rv 0) (aj gU ak)))) (au (aL (i:=4) fQ.nd rfl (by first|exact Or.inl rfl|exact Or.inr rfl) (cQ ak)) (au (bW PassesOwn.never rfl (aQ (K:=K) (rv 3)) (aR (i:=5) fQ.nd rfl (by first|exact Or.inl rfl|exact Or.inr rfl)) (aC (dM (bD lY (aK (cN (K:=K)) rfl T.cG bK (aj (dW (by rfl) rfl (aQ (K:=K) (aV bH hr rfl aU (aj (rv 1) (aj (rv 2) (aj (rv 5) ak))))) (fun _ _ _=>(cL (bD (fO.or (jz (K:=K) hu')) (rv 0) (rv 4) (by rfl)))) (fun _ _ _=>(rv 0))) ak)) aF (cC _)) (aC (fP (jA (K:=K) PySem.F.plainAttrs_list PySem.F.slot_list_append PySem.F.type_list_append cO (rv 4) (aj (rv 5) ak)))) bU))) (aC (bC (rv 4))))))),?_⟩
  refine aD (fun σ H1=>Same H H1/\σ=[some (.ref p),some (.int zs.length),some (.int w),none,none,none]) (fun R hR=>?_) ?_
  ·exact⟨_,rfl,p,zs,w,rfl,hS,vw.toRect,fun t H' s' hT=>⟨t,_,rfl,hT,rfl,_,_,rfl,_,_,rfl,rfl,hR _ _ ⟨s',rfl⟩⟩⟩
  rintro σ H1 ⟨s1,rfl⟩
  refine aD (fun σ H2=>∃ hd,Same H H2/\Ls K H2 hd ((bx zs w "#").map ao)/\σ=[some (.ref p),some (.int zs.length),some (.int w),some (.ref hd),none,none]) (fun R hR=>?_) ?_
  ·exact⟨_,rfl,p,zs,w,"#",rfl,s1.seq hS,vw.toRect,fun q H' fr=>hR _ _ ⟨q,s1.trans fr.same,fr.ls,rfl⟩⟩
  rintro σ H2 ⟨hd,s2,lh,rfl⟩
  refine aD (fun σ H3=>∃ q,H q=none/\H2 q=none/\Same H2 H3/\H3 q=some (.lst [])/\σ=[some (.ref p),some (.int zs.length),some (.int w),some (.ref hd),some (.ref q),none]) (fun R hR=>?_) ?_
  ·exact⟨by decide,fun q hq'=>hR _ _ ⟨q,s2.free hq',hq',Same.put hq',aA,rfl⟩⟩
  rintro σ H3 ⟨q,nq,nq2,s3,hq3,rfl⟩
  obtain⟨xs,ex,D⟩:=id lh
  have lc:=wQ zs w "#"
  refine aD (fun σ H4=>∃ v5:Option V,Fr K H H4 q ((K7 zs w).map ao)/\σ=[some (.ref p),some (.int zs.length),some (.int w),some (.ref hd),some (.ref q),v5]) (fun R hR=>?_) ?_
  ·refine⟨_,rfl,hd,rfl,⟨_,SqL.of (s3 _ _ ex)⟩,?_⟩
   refine cX (K:=K) (xs:=xs) (fun i σ H4=>∃(l:List V)(v5:Option V),Same H2 H4/\H4 q=some (.lst l)/\aN K H4 l ((((bx zs w "#").take i).filter fun x=>decide (0<((aZ zs.length w x).filter fun y=>!decide (y∈bx zs w "#")).length)).map ao)/\σ=[some (.ref p),some (.int zs.length),some (.int w),some (.ref hd),some (.ref q),v5])
    ⟨[],none,s3,hq3,.nil,rfl⟩ (fun i σ H4 _ hh=>by obtain⟨l,v5,g1,_⟩:=hh;exact SqL.of (g1 _ _ ex)) (fun i u σ H4 hu hh=>?_) (fun σ H4 hh=>?_)
   ·obtain⟨l,v5,g1,g2,Dl,rfl⟩:=hh
    obtain⟨d,ed,du⟩:=D.get hu
    rw[List.getElem?_map] at ed
    obtain⟨x,ex',rfl⟩:=Option.map_eq_some_iff.mp ed
    have tk:(bx zs w "#").take (i+1)=(bx zs w "#").take i++[x]:=by rw[List.take_succ,ex'];rfl
    have ll:l.length<=36:=by
     rw[Dl.length,List.length_map]
     refine Nat.le_trans (List.length_filter_le _ _) ?_
     rw[List.length_take];lia
    have out:∀ b:Bool,b=decide (0<((aZ zs.length w x).filter fun y=>!decide (y∈bx zs w "#")).length)->(((bx zs w "#").take (i+1)).filter fun x=>decide (0<((aZ zs.length w x).filter fun y=>!decide (y∈bx zs w "#")).length))=(((bx zs w "#").take i).filter fun x=>decide (0<((aZ zs.length w x).filter fun y=>!decide (y∈bx zs w "#")).length))++(if b=true then [x] else []):=by
     intro b hb
     rw[tk,List.filter_append,List.filter_cons,List.filter_nil,<- hb]
    refine⟨_,rfl,_,rfl,_,rfl,zs.length,w,u,x,rfl,du.mono g1,fun q5 H5 f5=>?_⟩
    obtain⟨ys,ey,Dy⟩:=f5.ls
    refine⟨q5,rfl,⟨_,SqL.of ey⟩,bY (K:=K) (xs:=aZ zs.length w x) (enc:=ao) (bf (SqL.of ey)) Dy (small (by have:=cT zs.length w x;lia)) (fun y=>!decide (y∈bx zs w "#")) ao (fun y hy u' H6 s6 d G hG=>?_) (fun y hy _ u' H6 s6 d G hG=>⟨_,rfl,hG _ _ (Same.refl _) d⟩) (fun us H6 s6 D6 q6 hq6=>?_)⟩
    ·exact⟨_,rfl,_,rfl,.inr (jD d (lh.mono (g1.trans (f5.same.trans s6))).den ⟨_,rfl,hG _ (Same.refl _)⟩)⟩
    ·have t6:=Same.put (o:=.lst us) hq6
     have tA:=f5.same.trans (s6.trans t6)
     refine .inl ⟨q6,_,rfl,.inl (SqL.of aA),_,_,rfl,rfl,_,rfl,?_⟩
     have el:us.length=((aZ zs.length w x).filter fun y=>!decide (y∈bx zs w "#")).length:=by rw[D6.length,List.length_map]
     rw[el]
     have ed0:decide ((0:Int)<(((aZ zs.length w x).filter fun y=>!decide (y∈bx zs w "#")).length:Nat))=decide (0<((aZ zs.length w x).filter fun y=>!decide (y∈bx zs w "#")).length):=by
      congr 1;apply propext;lia
     rw[ed0]
     refine fj (fun hb=>?_) (fun hb=>?_)
     ·refine⟨_,rfl,.inl ⟨rfl,_,SqL.of (tA _ _ g2)⟩,_,rfl,q,l,_,rfl,rfl,tA _ _ g2,ltl (by lia),?_⟩
      refine⟨l++[u],_,(SameBut.refl q _).put.of (g1.trans tA) nq2,aA,?_,rfl⟩
      rw[out true hb.symm,List.map_append]
      exact((SameBut.refl q _).put.cells (tA _ _ g2) (Dl.mono tA)).append (.cons ((SameBut.refl q _).put.cell (tA _ _ g2) (du.mono (g1.trans tA))) .nil)
     ·refine⟨l,_,g1.trans tA,tA _ _ g2,?_,rfl⟩
      rw[out false hb.symm]
      simpa using Dl.mono tA
   ·obtain⟨l,v5,g1,g2,Dl,rfl⟩:=hh
    have lx:xs.length=(bx zs w "#").length:=by rw[D.length,List.length_map]
    rw[lx,List.take_length] at Dl
    exact hR _ _ ⟨v5,⟨s2.trans g1,nq,⟨l,g2,Dl⟩⟩,rfl⟩
  rintro σ H4 ⟨v5,fr,rfl⟩
  exact⟨_,rfl,hq q H4 fr⟩
end
end My
namespace My
open PySem L2
theorem aN.RK{K:PySem.W.Frag}{H:Hp}{α:Type}{g:α->Str}:∀ xs:List α,aN K H (xs.map (V.str ∘ g)) (xs.map fun x=>Dt.str (g x))
 |[]=>.nil
 |x::xs=>.cons (.str _) (aN.RK xs)
theorem Jm{K:PySem.W.Frag}{H:Hp}{z:Str}{σ:L2.St}{Q:VK}{te:TE}(hz:z.length<=sizeLine)
  (ht:∀(c:Nat)(H':Hp),∀ G:VK,G (.bl (inS "#012345678" c)) H'->te (some (.str ⟨#[c]⟩)::σ) H' G)
  (hq:∀ H',Same H H'->Q (.bl (z.cps.toList.all (inS "#012345678"))) H') :
  ∃ W:Nat->Nat->List V->Hp->Prop,(∃ m,W 0 m [] H)/\lD (Its z) Jp te σ (fun ys H2=>∀ p,H2 p=none->∃(q:Addr)(bs:List Bool),[V.ref p]=[.ref q]/\SqL K (upd H2 p (.lst ys)) q (bs.map V.bl)/\Q (.bl (bs.all id)) (upd H2 p (.lst ys))) W:=by
 refine comp_map (K:=K) (xs:=z.cps.toList) (enc:=fun c=>Dt.str ⟨#[c]⟩) (Ln z) (by rw[List.map_map];exact aN.RK _) (by rw[Array.length_toList];exact hz) (fun c=>Dt.bl (inS "#012345678" c)) (fun c _ v H' s D G hG=>?_) (fun ys H' s D p hp=>?_)
 ·cases D
  exact ht c H' G (hG _ _ (Same.refl _) (.bl _))
 ·have e:ys=(z.cps.toList.map (inS "#012345678")).map V.bl:=by
   refine aN.yS (K:=K) (H:=H') ?_
   rw[List.map_map];exact D
  refine⟨p,z.cps.toList.map (inS "#012345678"),rfl,SqL.of (by rw[aA,e]),?_⟩
  rw[List.all_map]
  exact hq _ (s.and hp)
def RJ:Sp:=fun vs H Q _=>∃(z:Str)(n:Int),vs=[.str z,.int n]/\z.length<=1000/\∀ H',Same H H'->Q (.bl (vJ z n)) H'
theorem wR{l n m:Int}{te:TE}{σ:L2.St}{H:Hp}{G:VK}(he:∀ Q':VK,Q' (.int m) H->te σ H Q')(hg:G (.bl (decide (l<=n/\n<=m))) H) :
  if decide (l<=n)=true then te σ H (fun w' H4=>rI0 (fun i j=>.bl (decide (i<=j))) (.int n) w' H4 G) else G (.bl false) H:=by
 refine wA (fun h1=>he _ ⟨_,_,rfl,rfl,?_⟩) (fun h1=>?_)
 ·have h1':=of_decide_eq_true h1
  have e:decide (l<=n/\n<=m)=decide (n<=m):=by simp[h1']
  show G (.bl (decide (n<=m))) H
  rw[<- e];exact hg
 ·have e:decide (l<=n/\n<=m)=false:=decide_eq_false fun h=>h1 (decide_eq_true h.1)
  rw[<- e];exact hg
def vR(m n:Int):Bool:=decide (1<=m/\m<=6)&&decide (1<=n/\n<=6)
def Nm:Sp:=fun vs H Q _=>∃(m n:Int),vs=[.int m,.int n]/\Q (.bl (vR m n)) H
def Np(K:PySem.W.Frag):Sp:=fun vs H Q _=>∃(p:Addr)(zs:List Str),vs=[.ref p]/\SqL K H p (zs.map V.str)/\zs.length<=1000/\(∀ z∈zs,z.length<=1000)/\∀ H',Same H H'->Q (.bl (sW zs)) H'
theorem Rq{zs:List Str}:(((zs.map V.str).length:Nat):Int)=(zs.length:Int):=by rw[List.length_map]
theorem Mu{K:PySem.W.Frag}{H:Hp}{a:Addr}{zs:List Str}{n:Int}{σ:L2.St}{Q:VK}{te:TE}(hS:SqL K H a (zs.map V.str))(hz:zs.length<=1000)
  (ht:∀ z∈zs,∀(H':Hp),Same H H'->∀ G:VK,(∀ H'',Same H' H''->G (.bl (vJ z n)) H'')->te (some (.str z)::σ) H' G)
  (hq:∀ H',Same H H'->Q (.bl (zs.all fun r=>vJ r n)) H') :
  ∃ W:Nat->Nat->List V->Hp->Prop,(∃ m,W 0 m [] H)/\lD (Itl K a) Jp te σ (fun ys H2=>∀ p,H2 p=none->Wx K [V.ref p] (upd H2 p (.lst ys)) Q) W:=by
 refine comp_map (K:=K) (xs:=zs) (enc:=Dt.str) (bf hS) (aN.strs zs) (small (by lia)) (fun z=>Dt.bl (vJ z n)) (fun z hz v H' s D G hG=>?_) (fun ys H' s D p hp=>?_)
 ·cases D
  exact ht z hz H' s G fun H'' s''=>hG _ _ s'' (.bl _)
 ·have e:ys=(zs.map fun z=>vJ z n).map V.bl:=by
   refine aN.yS (K:=K) (H:=H') ?_
   rw[List.map_map];exact D
  refine⟨p,zs.map fun z=>vJ z n,rfl,SqL.of (by rw[aA,e]),?_⟩
  rw[List.all_map]
  exact hq _ (s.and hp)
section
variable{P:Program}{w:World}{K:PySem.W.Frag}{mg:Str->Option Value}{base:Heap}{Z:Adr}
theorem U3{f:Addr}{fd:FuncData} (F:Fun K "is_row" "is_row" vM f fd) (T:Txt K mg Z):cu P w K mg base (CXE P w) 1 f fd ["row","width"] RJ:=by
 refine F.rok Jk (fun vs H Q E h=>?_) (fun cdv A outer s H vs Q E hr h=>?_)
 ·obtain⟨z,n,rfl,_⟩:=h;rfl
 ·obtain⟨z,n,rfl,hz,hq⟩:=h
  have hu:=oG hr
  have hu':=tE hr
  have hz':z.length<=sizeLine:=small (by lia)
  refine⟨_,(aC (bC (Gw (Bf (sI.or (rW (K:=K) hu)) (aK (cN (K:=K)) rfl T.cG bK (aj (rv 0) ak)) (rv 1) (cC _)) (Gx (aK (k_all (K:=K) rfl) rfl T.Fd Cr (aj (dW (by rfl) rfl (Vb (rv 0)) (fun _ _ _=>jZ) (fun _ _ _=>(Bf (eV.or (nY (K:=K) hu')) (rv 0) (Mh T.nu rfl) (by rfl)))) ak)))))),?_⟩
  refine⟨_,rfl,.inr ⟨z,rfl,hz',_,rfl,.inl ⟨rfl,_,rfl,?_⟩⟩⟩
  rw[JW]
  refine wA (fun h1=>?_) (fun h1=>?_)
  ·refine⟨_,rfl,z,rfl,Jm (K:=K) hz' (fun c H' G hG=>⟨_,rfl,.inl ⟨_,_,rfl,rfl,hG⟩⟩) fun H' s'=>?_⟩
   have:=hq H' s'
   unfold vJ at this
   rw[h1,Bool.true_and] at this
   exact this
  ·have:=hq H (Same.refl _)
   unfold vJ at this
   rw[Bool.eq_false_iff.mpr h1,Bool.false_and] at this
   exact this
theorem Q0{f:Addr}{fd:FuncData} (F:Fun K "is_size" "is_size" rB f fd) (T:Txt K mg Z):cu P w K mg base (CXE P w) 1 f fd ["height","width"] Nm:=by
 refine F.rok Eh (fun vs H Q E h=>?_) (fun cdv A outer s H vs Q E hr h=>?_)
 ·obtain⟨m,n,rfl,_⟩:=h;rfl
 ·obtain⟨m,n,rfl,hq⟩:=h
  refine⟨_,(aC (bC (Gw (tY lA lA aF (rv 0) (DX T.gk rfl)) (Gx (tY lA lA aF (rv 1) (DX T.dF rfl)))))),?_⟩
  refine⟨_,rfl,_,_,rfl,rfl,_,rfl,?_⟩
  refine wR (m:=6) (fun _ q=>q) ⟨_,rfl,fj (fun hb=>?_) (fun hb=>?_)⟩
  ·unfold vR at hq
   rw[hb,Bool.true_and] at hq
   refine⟨_,rfl,_,_,rfl,rfl,_,rfl,?_⟩
   exact wR (m:=6) (fun _ q=>q) hq
  ·unfold vR at hq
   rw[hb,Bool.false_and] at hq
   exact hq
theorem Bs{m n:Int}:vR m n=true↔((1<=m/\m<=6)/\(1<=n/\n<=6)):=by
 unfold vR
 rw[Bool.and_eq_true,decide_eq_true_iff,decide_eq_true_iff]
theorem Q5{f:Addr}{fd:FuncData} (F:Fun K "is_view" "is_view" rC f fd) (T:Txt K mg Z) (uq:Df P w K mg base 1 "is_row" ["row","width"] RJ) (ql:Df P w K mg base 1 "is_size" ["height","width"] Nm):cu P w K mg base (CXE P w) 2 f fd ["rows"] (Np K):=by
 refine F.rok Ei (fun vs H Q E h=>?_) (fun cdv A outer s H vs Q E hr h=>?_)
 ·obtain⟨p,zs,rfl,_⟩:=h;rfl
 ·obtain⟨p,zs,rfl,hS,hn,hz,hq⟩:=h
  have hu:=oG hr
  refine⟨_,(au (dM (Jh (Mj (bD (sI.or (rW (K:=K) hu)) (aK (cN (K:=K)) rfl T.cG bK (aj (rv 0) ak)) aF (cC _)) (Ml (mq (j5 (aV ql hr rfl aU (aj (aK (cN (K:=K)) rfl T.cG bK (aj (rv 0) ak)) (aj (aK (cN (K:=K)) rfl T.cG bK (aj (bR (bZ (K:=K)) (rv 0) aF) ak)) ak)))))))) (aC (bC vG)) bU) (aC (bC (aK (k_all (K:=K) rfl) rfl T.Fd Cr (aj (dW (by rfl) rfl (aQ (K:=K) (rv 0)) (fun _ _ _=>jZ) (fun _ _ _=>(aV uq hr rfl aU (aj (rv 0) (aj (aK (cN (K:=K)) rfl T.cG bK (aj (bR (bZ (K:=K)) (rv 1) aF) ak)) ak))))) ak))))),?_⟩
  refine⟨_,rfl,.inl ⟨p,_,rfl,.inl hS,.inl ⟨rfl,_,rfl,?_⟩⟩⟩
  rw[Rq,JW]
  refine fj (fun hb=>?_) (fun hb=>?_)
  ·cases zs with
   |nil=>exact hq H (Same.refl _)
   |cons z zs=>have:=of_decide_eq_true hb;simp only[List.length_cons] at this;lia
  cases zs with
  |nil=>cases hb
  |cons z zs=>
   have z0:=hz z List.mem_cons_self
   refine⟨_,rfl,.inl ⟨p,_,rfl,.inl hS,_,rfl,.inl ⟨p,_,_,_,rfl,rfl,hS,cW,.inr ⟨z,rfl,small (by lia),?_⟩⟩⟩⟩
   refine⟨_,_,rfl,?_⟩
   rw[Rq]
   refine⟨_,rfl,fj (fun h1=>?_) (fun h1=>?_)⟩
   ·have:=hq H (Same.refl _)
    have h1:¬vR ((z::zs).length:Nat) z.length=true:=by simpa using h1
    rw[Bs] at h1
    by_cases h2:(z::zs).length<=6
    ·rw[Es (by simp only[List.length_cons] at h1 h2 ⊢;lia)] at this
     exact this
    ·rw[Er h2] at this
     exact this
   ·have h1:vR ((z::zs).length:Nat) z.length=true:=by simpa using h1
    rw[Bs] at h1
    obtain⟨⟨a1,a2⟩,a3,a4⟩:=h1
    refine⟨_,rfl,p,rfl,⟨_,hS⟩,Mu hS hn (n:=z.length) (fun r hr' H' s' G hG=>?_) fun H' s'=>?_⟩
    ·refine⟨_,rfl,_,rfl,.inl ⟨p,_,_,_,rfl,rfl,s'.seq hS,cW,.inr ⟨z,rfl,small (by lia),?_⟩⟩⟩
     exact⟨r,_,rfl,hz r hr',hG⟩
    ·rw[<- vZ (by lia) (by lia) (by lia)]
     exact hq H' s'
def Nj(K:PySem.W.Frag)(C B:Addr):Sp:=fun vs H Q E=>∃(x dx p:Addr)(z:List Str),vs=[.ref x,.ref p]/\H x=some (.ins C dx [])/\SqL K H p (z.map V.str)/\z.length<=1000/\(∀ r∈z,r.length<=1000) /\
 (sW z=false->∀ H',Same H H'->E (.ref B) none H')/\(sW z=true->∀ H' (l:Addr) (z0:Str) (zs:List Str),z=z0::zs->H l=none->l≠x->H' l=some (.lst (z.map V.str))->H' x=some (.ins C dx (rT l z.length z0.length))->(∀ b o,H b=some o->b≠x->H' b=some o)->Q .non H')
theorem Nq{K:PySem.W.Frag}{H:Hp}{p x C dx:Addr}{xs:List V}{fs:List (Str×V)}{o:HO}(h:SqL K H p xs)(hx:H x=some (.ins C dx fs)):SqL K (upd H x o) p xs:=by
 rcases h with(h|⟨ob,h⟩)|h
 ·exact .inl (.inl (by rw[aO (pH h hx (by intro z;cases z))];exact h))
 ·exact .inl (.inr ⟨ob,by rw[aO (pH h hx (by intro z;cases z))];exact h⟩)
 ·exact .inr h
theorem XH{a b:Str}{u v:V}:(gY a v (gY b u [])).length<1000:=by
 have h1:=jh a v (gY b u [])
 have h2:=jh b u []
 simp only[List.length_nil] at h2
 lia
theorem PL{f:Addr}{fd:FuncData} (F:Fun K "__init__" "View.__init__" gZ f fd) (T:Txt K mg Z) (qm:Df P w K mg base 2 "is_view" ["rows"] (Np K)):cu P w K mg base (CXE P w) 3 f fd ["self","rows"] (Nj K Z.View Z.BadView):=by
 refine F.Vc rE (fun vs H Q E h=>?_) (fun cdv A outer s H vs Q E hr h=>?_)
 ·obtain⟨x,dx,p,z,rfl,_⟩:=h;rfl
 ·obtain⟨x,dx,p,z,rfl,hx,hS,hn,hz,hE,hq⟩:=h
  have hd:=Km hr
  refine⟨_,(au (dM (RT.nox (mq (j5 (aV qm hr rfl aU (aj (rv 1) ak))))) (aC (pU T.nO rfl T.wK hd (aj gU ak))) bU) (au (RS.nox (Ec (rv 0) (iZ (Kq (K:=K)) rfl T.uD tM (aj (rv 1) ak)))) (au (RS.nox (Ec (rv 0) (aK (cN (K:=K)) rfl T.cG bK (aj (rv 1) ak)))) (aC (RS.nox (Ec (rv 0) (aK (cN (K:=K)) rfl T.cG bK (aj (bR (bZ (K:=K)) (rv 1) aF) ak)))))))),?_⟩
  refine⟨_,rfl,p,z,rfl,hS,hn,hz,fun H1 s1=>⟨_,rfl,?_⟩⟩
  cases hv:sW z with
  |false=>exact tH ⟨by decide,hE hv H1 s1⟩
  |true=>
   refine nQ ?_
   cases z with
   |nil=>exact absurd (show false=true from hv) (by decide)
   |cons z0 zs=>
    have z0':=hz z0 List.mem_cons_self
    refine⟨_,rfl,p,_,rfl,.inl (s1.seq hS),fun l hl=>?_⟩
    have nlx:l≠x:=(bG (s1 x _ hx) hl).symm
    have h1:(upd H1 l (.lst ((z0::zs).map V.str))) x=some (.ins Z.View dx []):=by rw[aO nlx.symm];exact s1 x _ hx
    have S1:SqL K (upd H1 l (.lst ((z0::zs).map V.str))) p ((z0::zs).map V.str):=(s1.and hl).seq hS
    refine⟨_,rfl,x,Z.View,dx,_,rfl,h1,T.dO,T.fG,(by show 0<1000;decide),?_⟩
    have S2:=Nq (o:=.ins Z.View dx (gY "rows" (.ref l) [])) S1 h1
    refine⟨_,rfl,.inl ⟨p,_,rfl,.inl S2,_,rfl,x,Z.View,dx,_,rfl,aA,T.dO,T.d9,(by show 1<1000;decide),?_⟩⟩
    have S3:=Nq (o:=.ins Z.View dx (gY "height" (.int ((z0::zs).map V.str).length) (gY "rows" (.ref l) []))) S2 aA
    refine⟨_,rfl,.inl ⟨p,_,_,_,rfl,rfl,S3,cW,.inr ⟨z0,rfl,small (by lia),_,rfl,x,Z.View,dx,_,rfl,aA,T.dO,T.dU,XH,?_⟩⟩⟩
    refine hq hv _ l z0 zs rfl (s1.free hl) nlx ?_ ?_ (fun b o e hb=>?_)
    ·rw[aO nlx,aO nlx,aO nlx,aA]
    ·rw[aA];rw[List.length_map];rfl
    ·rw[aO hb,aO hb,aO hb]
     exact(s1.and hl) b o e
end
end My
namespace My
open PySem L2
def Ni(K:PySem.W.Frag)(C:Addr):Sp:=fun vs H Q _=>∃(x:Addr)(v:V)(zs:List Str)(w:Nat)(c:Cell),vs=[.ref x,v]/\fY C H x zs w/\Den K H v (ao c)/\Q (.bl (decide (inF zs.length w c))) H
def kW(K:PySem.W.Frag)(C:Addr):Sp:=fun vs H Q _=>∃(x:Addr)(v:V)(zs:List Str)(w:Nat)(c:Cell),vs=[.ref x,v]/\fY C H x zs w/\Den K H v (ao c)/\Q (.bl (aX zs w c)) H
def vU(K:PySem.W.Frag)(C:Addr):Sp:=fun vs H Q _=>∃(x:Addr)(zs:List Str)(w:Nat),vs=[.ref x]/\fY C H x zs w/\∀ q H',Fr K H H' q ((bJ zs.length w).map ao)->Q (.ref q) H'
def zu(K:PySem.W.Frag)(C NC:Addr):Sp:=fun vs H Q E=>∃(x:Addr)(v:V)(zs:List Str)(w:Nat)(c:Cell),vs=[.ref x,v]/\fY C H x zs w/\Den K H v (ao c)/\(inF zs.length w c->∀ q H',Fr K H H' q ((aZ zs.length w c).map ao)->Q (.ref q) H')/\(¬inF zs.length w c->∀ H',Same H H'->E (.ref NC) none H')
section
variable{P:Program}{w:World}{K:PySem.W.Frag}{mg:Str->Option Value}{base:Heap}{Z:Adr}
theorem TV{f:Addr}{fd:FuncData} (F:Fun K "has_cell" "has_cell" oU f fd) (T:Txt K mg Z):cu P w K mg base (CXE P w) 1 f fd ["view","cell"] (Ni K Z.View):=by
 refine F.rok Bm (fun vs H Q E h=>?_) (fun cdv A outer s H vs Q E hr h=>?_)
 ·obtain⟨x,v,zs,w,c,rfl,_⟩:=h;rfl
 ·obtain⟨x,v,zs,w,c,rfl,vt,dv,hq⟩:=h
  obtain⟨dx,l,hx,hl⟩:=vt.ob
  refine⟨_,(aC (bC (Gw (tY lA xR aF (bR (bZ (K:=K)) (rv 1) aF) (jU (K:=K) (rv 0))) (Gx (tY lA xR aF (bR (bZ (K:=K)) (rv 1) aF) (jU (K:=K) (rv 0))))))),?_⟩
  refine⟨_,rfl,lZ dv ⟨_,_,rfl,rfl,_,rfl,?_⟩⟩
  refine wU (m:=(zs.length:Int)) (fun Q' q=>⟨_,rfl,x,Z.View,dx,_,_,rfl,hx,T.dO,T.d9,uW _ _ _,q⟩) ⟨_,rfl,?_⟩
  have fin:∀ b:Bool,b=decide (inF zs.length w c)->Q (.bl b) H:=fun b e=>by rw[e];exact hq
  refine fj (fun h1=>?_) (fun h1=>fin _ (decide_eq_false fun z=>by rw[decide_eq_true z.1] at h1;cases h1).symm)
  refine⟨_,rfl,m8 dv ⟨_,_,rfl,rfl,_,rfl,?_⟩⟩
  refine wU (m:=(w:Int)) (fun Q' q=>⟨_,rfl,x,Z.View,dx,_,_,rfl,hx,T.dO,T.dU,yM _ _ _,q⟩) (fin _ ?_)
  have h1':=of_decide_eq_true h1
  by_cases h2:0<=c.2/\c.2<(w:Int)
  ·rw[decide_eq_true h2,decide_eq_true (show inF zs.length w c from⟨h1',h2⟩)]
  ·rw[decide_eq_false h2,decide_eq_false (fun z:inF zs.length w c=>h2 z.2)]
theorem Aw{f:Addr}{fd:FuncData} (F:Fun K "is_closed" "is_closed" mG f fd) (T:Txt K mg Z) (gK:Df P w K mg base 1 "has_cell" ["view","cell"] (Ni K Z.View)):cu P w K mg base (CXE P w) 2 f fd ["view","cell"] (kW K Z.View):=by
 refine F.rok zj (fun vs H Q E h=>?_) (fun cdv A outer s H vs Q E hr h=>?_)
 ·obtain⟨x,v,zs,w,c,rfl,_⟩:=h;rfl
 ·obtain⟨x,v,zs,w,c,rfl,vt,dv,hq⟩:=h
  obtain⟨dx,l,hx,hl⟩:=vt.ob
  have hu:=oG hr
  refine⟨_,(aC (bC (Gw (aV gK hr rfl aU (aj (rv 0) (aj (rv 1) ak))) (Gx (Bf (sI.or (rW (K:=K) hu)) (bR (bZ (K:=K)) (bR (bZ (K:=K)) (jU (K:=K) (rv 0)) (bR (bZ (K:=K)) (rv 1) aF)) (bR (bZ (K:=K)) (rv 1) aF)) (Mh T.eO rfl) (cC _)))))),?_⟩
  refine⟨_,rfl,_,rfl,x,v,zs,w,c,rfl,vt,dv,_,rfl,?_⟩
  unfold aX at hq
  refine fj (fun h1=>?_) (fun h1=>?_)
  ·rw[h1,Bool.true_and] at hq
   obtain⟨⟨a1,a2⟩,⟨a3,a4⟩⟩:=of_decide_eq_true h1
   have e1:c.1=((c.1.toNat:Nat):Int):=by lia
   have e2:c.2=((c.2.toNat:Nat):Int):=by lia
   have i1:c.1.toNat<zs.length:=by lia
   refine⟨_,rfl,x,Z.View,dx,_,_,rfl,hx,T.dO,T.fG,Dh _ _ _,_,rfl,lZ dv ?_⟩
   rw[e1]
   refine yZ (SqL.of hl) i1 ⟨_,rfl,m8 dv ?_⟩
   rw[e2]
   refine uc (SqL.of hl) vt.vw.toRect i1 (by lia) (.inl ⟨rfl,?_⟩)
   have es:decide (V.str ⟨#[codeAt zs (c.1.toNat,c.2.toNat)]⟩=V.str "#")=decide (codeAt zs (c.1.toNat,c.2.toNat)=35):=by
    congr 1
    apply propext
    have eh:("#" : Str)=⟨#[35]⟩:=by decide +kernel
    rw[eh]
    constructor
    ·intro z;simpa using z
    ·intro z;rw[z]
   rw[es];exact hq
  ·rw[h1,Bool.false_and] at hq
   exact hq
theorem Av{f:Addr}{fd:FuncData} (F:Fun K "cells" "cells" zf f fd) (T:Txt K mg Z):cu P w K mg base (CXE P w) 1 f fd ["view"] (vU K Z.View):=by
 refine F.rok pY (fun vs H Q E h=>?_) (fun cdv A outer s H vs Q E hr h=>?_)
 ·obtain⟨x,zs,w,rfl,_⟩:=h;rfl
 ·obtain⟨x,zs,w,rfl,vt,hq⟩:=h
  have z6:=vt.vw.le
  have w6:=vt.vw.w6
  have l36:zs.length*w<=6*6:=Nat.mul_le_mul z6 w6
  refine⟨_,(au (aL (i:=1) pY.nd rfl (by first|exact Or.inl rfl|exact Or.inr rfl) (cQ ak)) (au (bW PassesOwn.never rfl (cP rfl T.dw (aj (jU (K:=K) (rv 0)) ak)) (aR (i:=2) pY.nd rfl (by first|exact Or.inl rfl|exact Or.inr rfl)) (aC (bW PassesOwn.never rfl (cP rfl T.dw (aj (jU (K:=K) (rv 0)) ak)) (aR (i:=3) pY.nd rfl (by first|exact Or.inl rfl|exact Or.inr rfl)) (aC (fP (jA (K:=K) PySem.F.plainAttrs_list PySem.F.slot_list_append PySem.F.type_list_append cO (rv 1) (aj (cZ (aj (rv 2) (aj (rv 3) ak))) ak))))))) (aC (bC (rv 1))))),?_⟩
  refine aD (fun σ H1=>∃ q,H q=none/\Same H H1/\H1 q=some (.lst [])/\σ=[some (.ref x),some (.ref q),none,none]) (fun R hR=>?_) ?_
  ·exact⟨by decide,fun q hq'=>hR _ _ ⟨q,hq',Same.put hq',aA,rfl⟩⟩
  rintro σ H1 ⟨q,nq,s1,hq1,rfl⟩
  refine aD (fun σ H2=>∃(v2 v3:Option V),Fr K H H2 q ((bJ zs.length w).map ao)/\σ=[some (.ref x),some (.ref q),v2,v3]) (fun R hR=>?_) ?_
  ·obtain⟨dx,l,hx,hl⟩:=(vt.mono s1).ob
   refine⟨_,rfl,x,Z.View,dx,_,_,rfl,hx,T.dO,T.d9,uW _ _ _,_,rfl,by lia,by lia,?_⟩
   rw[Int.toNat_natCast]
   refine cR (lo:=0) (n:=zs.length) (fun i σ H2=>∃(v2 v3:Option V),Same H H2/\Ls K H2 q ((bJ i w).map ao)/\σ=[some (.ref x),some (.ref q),v2,v3]) ⟨none,none,s1,⟨[],hq1,.nil⟩,rfl⟩ (fun i σ H2 hi hh=>?_) (fun σ H2 hh=>?_)
   ·obtain⟨v2,v3,g1,g2,rfl⟩:=hh
    obtain⟨dx,l,hx,hl⟩:=(vt.mono g1).ob
    refine⟨_,rfl,x,Z.View,dx,_,_,rfl,hx,T.dO,T.dU,yM _ _ _,_,rfl,by lia,by lia,?_⟩
    rw[Int.toNat_natCast]
    refine cR (lo:=0) (n:=w) (fun j σ H2=>∃ v3:Option V,Same H H2/\Ls K H2 q ((bJ i w++(List.range j).map fun c:Nat=>((i:Int),(c:Int))).map ao)/\σ=[some (.ref x),some (.ref q),some (.int (0+i)),v3]) ⟨v3,g1,by simpa using g2,rfl⟩ (fun j σ H2 hj hh=>?_) (fun σ H2 hh=>?_)
    ·obtain⟨v3,g1,⟨xs,ex,D⟩,rfl⟩:=hh
     have step:bJ i w++(List.range (j+1)).map (fun c:Nat=>((i:Int),(c:Int)))=(bJ i w++(List.range j).map fun c:Nat=>((i:Int),(c:Int)))++[((i:Int),(j:Int))]:=by
      rw[List.range_succ,List.map_append,<- List.append_assoc];rfl
     have ll:=D.length
     rw[List.length_map,List.length_append,eG,List.length_map,List.length_range] at ll
     have hl2:i*w<=6*6:=Nat.mul_le_mul (by lia) w6
     refine⟨_,rfl,.inl ⟨rfl,_,SqL.of ex⟩,_,rfl,_,rfl,sz rfl,fun t ht=>?_⟩
     have st:=Same.put (o:=.tup [V.int (0+i),V.int (0+j)]) ht
     refine⟨q,xs,_,rfl,rfl,st _ _ ex,ltl (by lia),?_⟩
     refine⟨_,(SameBut.refl q _).put.of (g1.trans st) nq,⟨xs++[.ref t],aA,?_⟩,rfl⟩
     rw[step,List.map_append]
     refine((SameBut.refl q _).put.cells (st _ _ ex) (D.mono st)).append (.cons ((SameBut.refl q _).put.cell (st _ _ ex) ?_) .nil)
     rw[Int.zero_add,Int.zero_add];exact dY
    ·obtain⟨v3,g1,g2,rfl⟩:=hh
     exact⟨_,_,g1,by rw[jR];exact g2,rfl⟩
   ·obtain⟨v2,v3,g1,g2,rfl⟩:=hh
    exact hR _ _ ⟨v2,v3,⟨g1,nq,g2⟩,rfl⟩
  rintro σ H2 ⟨v2,v3,fr,rfl⟩
  exact⟨_,rfl,hq q H2 fr⟩
end
end My
namespace My
open PySem L2
def oW(K:PySem.W.Frag)(C:Addr)(g:List Str->Nat->Cell->List Cell):Sp:=fun vs H Q _=>∃(x:Addr)(v:V)(zs:List Str)(w:Nat)(c:Cell),vs=[.ref x,v]/\fY C H x zs w/\Den K H v (ao c)/\inF zs.length w c/\∀ q H',Fr K H H' q ((g zs w c).map ao)->Q (.ref q) H'
def zq(K:PySem.W.Frag)(C:Addr)(g:List Str->Nat->List Cell):Sp:=fun vs H Q _=>∃(x:Addr)(zs:List Str)(w:Nat),vs=[.ref x]/\fY C H x zs w/\∀ q H',Fr K H H' q ((g zs w).map ao)->Q (.ref q) H'
def aJ(zs:List Str)(w:Nat):List Cell:=(fL zs w).filter fun x=>decide (0<(aH zs w x).length)
theorem lO{zs:List Str}{w:Nat}(v:Vw zs w):(fL zs w).length<=36:=by
 have h1:(fL zs w).length<=(bJ zs.length w).length:=List.length_filter_le _ _
 rw[eG] at h1
 have h2:zs.length*w<=6*6:=Nat.mul_le_mul v.le v.w6
 lia
theorem pJ(zs:List Str)(w:Nat)(x:Cell):(aH zs w x).length<=8:=Nat.le_trans (List.length_filter_le _ _) (cT _ _ _)
theorem Sw(a b:Cell):(!eqD (ao a) (ao b))=!decide (a=b):=by rw[Ac]
theorem Gh(a:Int):(if(0:Int)>a then(0:Int) else a)=max a 0:=by by_cases h:(0:Int)>a<;>simp only[h,if_true,if_false]<;>lia
theorem Gi(a b:Int):(if b<a then b else a)=min a b:=by by_cases h:b<a<;>simp only[h,if_true,if_false]<;>lia
theorem KN{a:Int}(h:a<=6):0<=max a 0/\max a 0<=6:=⟨Int.le_max_right _ _,Int.max_le.mpr ⟨h,by decide⟩⟩
theorem KQ{a b:Int}(h:0<=a)(h0:0<=b)(h2:b<=6):0<=min a b/\min a b<=6:=⟨Int.le_min.mpr ⟨h,h0⟩,Int.le_trans (Int.min_le_right _ _) h2⟩
theorem Ms{i j:Int}(a:0<=i/\i<=6)(b:0<=j/\j<=6) : -(2^62)<=i/\i<2^62 /\ -(2^62)<=j/\j<2^62:=⟨by lia,by lia,by lia,by lia⟩
theorem JL{a b:Int}{i:Nat}(ha:0<=a)(hb:b<=6)(h:i<(b-a).toNat):i<6:=by lia
theorem Sd{a b:Int}(ha:0<=a)(hb:b<=6):(b-a).toNat<=6:=by lia
theorem X7{a b n:Nat}(h1:a<=n*6)(h2:b<=6):a+b<=(n+1)*6:=by lia
theorem Wc{a b i j:Nat}(h1:a<=i*6)(h2:b<=j)(hi:i<6)(hj:j<6):a+b<=100:=by lia
section
variable{P:Program}{w:World}{K:PySem.W.Frag}{mg:Str->Option Value}{base:Heap}{Z:Adr}
theorem Lg{f:Addr}{fd:FuncData} (F:Fun K "near" "near" Ef f fd) (T:Txt K mg Z) (gK:Df P w K mg base 1 "has_cell" ["view","cell"] (Ni K Z.View)):cu P w K mg base (CXE P w) 2 f fd ["view","cell"] (zu K Z.View Z.NoCell):=by
 refine F.Vc ud (fun vs H Q E h=>?_) (fun cdv A outer s H vs Q E hr h=>?_)
 ·obtain⟨x,v,zs,w,c,rfl,_⟩:=h;rfl
 ·obtain⟨x,v,zs,w,c,rfl,vt,dv,hq,hE⟩:=h
  have hu:=oG hr
  have hd:=Km hr
  have z6:=vt.vw.le
  have w6:=vt.vw.w6
  refine⟨_,(au (dM (RT.nox (mq (j5 (aV gK hr rfl aU (aj (rv 0) (aj (rv 1) ak)))))) (aC (pU T.jF rfl T.oX hd (aj gU ak))) bU) (au (RS.nox (aL (i:=2) ud.nd rfl (by first|exact Or.inl rfl|exact Or.inr rfl) (cQ ak))) (au (RS.nox (bW PassesOwn.never rfl (xW rfl T.dw (aj (aK (wM rfl) rfl T.Jz JD (aj (bV Lk (bR (bZ (K:=K)) (rv 1) aF) aF) (aj aF ak))) (aj (aK (wN rfl) rfl T.Fg Cv (aj (bV aY (bR (bZ (K:=K)) (rv 1) aF) aF) (aj (jU (K:=K) (rv 0)) ak))) ak))) (aR (i:=3) ud.nd rfl (by first|exact Or.inl rfl|exact Or.inr rfl)) (aC (bW PassesOwn.never rfl (xW rfl T.dw (aj (aK (wM rfl) rfl T.Jz JD (aj (bV Lk (bR (bZ (K:=K)) (rv 1) aF) aF) (aj aF ak))) (aj (aK (wN rfl) rfl T.Fg Cv (aj (bV aY (bR (bZ (K:=K)) (rv 1) aF) aF) (aj (jU (K:=K) (rv 0)) ak))) ak))) (aR (i:=4) ud.nd rfl (by first|exact Or.inl rfl|exact Or.inr rfl)) (aC (dM (bD (Gq.or (Gb (K:=K) hu)) (cZ (aj (rv 3) (aj (rv 4) ak))) (rv 1) (cC _)) (aC (fP (jA (K:=K) PySem.F.plainAttrs_list PySem.F.slot_list_append PySem.F.type_list_append cO (rv 2) (aj (cZ (aj (rv 3) (aj (rv 4) ak))) ak)))) bU)))))) (aC (RS.nox (bC (rv 2))))))),?_⟩
  refine aD (fun σ H1=>inF zs.length w c/\Same H H1/\σ=[some (.ref x),some v,none,none,none]) (fun R hR=>?_) ?_
  ·refine⟨_,rfl,_,rfl,x,v,zs,w,c,rfl,vt,dv,_,rfl,?_⟩
   refine fj (fun h1=>⟨by decide,hE (of_decide_eq_false (by simpa only[Bool.not_eq_true'] using h1)) H (Same.refl _)⟩) (fun h1=>hR _ _ ⟨of_decide_eq_true (by simpa only[Bool.not_eq_false'] using h1),Same.refl _,rfl⟩)
  rintro σ H1 ⟨hin,s1,rfl⟩
  have hq':=hq hin
  rw[<- LC z6 w6 hin] at hq'
  obtain⟨⟨c1,c2⟩,⟨c3,c4⟩⟩:=id hin
  refine aD (fun σ H2=>∃ q,H q=none/\Same H H2/\H2 q=some (.lst [])/\σ=[some (.ref x),some v,some (.ref q),none,none]) (fun R hR=>?_) ?_
  ·exact⟨by decide,fun q hq'=>hR _ _ ⟨q,s1.free hq',s1.and hq',aA,rfl⟩⟩
  rintro σ H2 ⟨q,nq,s2,hq2,rfl⟩
  have m1:(if(0:Int)>c.1-1 then(0:Int) else c.1-1)=max (c.1-1) 0:=Gh _
  have m2:(if(zs.length:Int)<c.1+2 then(zs.length:Int) else c.1+2)=min (c.1+2) zs.length:=Gi _ _
  have m3:(if(0:Int)>c.2-1 then(0:Int) else c.2-1)=max (c.2-1) 0:=Gh _
  have m4:(if(w:Int)<c.2+2 then(w:Int) else c.2+2)=min (c.2+2) w:=Gi _ _
  have bx1:=KN (a:=c.1-1) (by lia)
  have bx2:=KN (a:=c.2-1) (by lia)
  have bn1:=KQ (a:=c.1+2) (b:=(zs.length:Int)) (by lia) (by lia) (by lia)
  have bn2:=KQ (a:=c.2+2) (b:=(w:Int)) (by lia) (by lia) (by lia)
  refine aD (fun σ H3=>∃(v3 v4:Option V),Fr K H H3 q ((DR zs.length w c).map ao)/\σ=[some (.ref x),some v,some (.ref q),v3,v4]) (fun R hR=>?_) ?_
  ·obtain⟨dx,l,hx,hl⟩:=(vt.mono s2).ob
   refine⟨_,rfl,lZ (dv.mono s2) ⟨_,_,rfl,rfl,_,_,rfl,?_⟩⟩
   refine⟨_,rfl,lZ (dv.mono s2) ⟨_,rfl,x,Z.View,dx,_,_,rfl,hx,T.dO,T.d9,uW _ _ _,_,_,rfl,_,_,rfl,?_⟩⟩
   rw[m1,m2]
   refine⟨Ms bx1 bn1,?_⟩
   refine cR (lo:=max (c.1-1) 0) (n:=(min (c.1+2) (zs.length:Int)-max (c.1-1) 0).toNat) (fun i σ H3=>∃(v3 v4:Option V),Same H H3/\Ls K H3 q ((jW w c (max (c.1-1) 0) i).map ao)/\σ=[some (.ref x),some v,some (.ref q),v3,v4]) ⟨none,none,s2,⟨[],hq2,.nil⟩,rfl⟩ (fun i σ H3 hi hh=>?_) (fun σ H3 hh=>?_)
   ·obtain⟨v3,v4,g1,g2,rfl⟩:=hh
    obtain⟨dx,l,hx,hl⟩:=(vt.mono g1).ob
    refine⟨_,rfl,m8 (dv.mono g1) ⟨_,_,rfl,rfl,_,_,rfl,?_⟩⟩
    refine⟨_,rfl,m8 (dv.mono g1) ⟨_,rfl,x,Z.View,dx,_,_,rfl,hx,T.dO,T.dU,yM _ _ _,_,_,rfl,_,_,rfl,?_⟩⟩
    rw[m3,m4]
    refine⟨Ms bx2 bn2,?_⟩
    have base0:jW w c (max (c.1-1) 0) (i+1)=jW w c (max (c.1-1) 0) i++tW w c (max (c.1-1) 0+(i:Int)):=by
     unfold jW
     rw[List.range_succ,List.flatMap_append];simp
    have pl:∀ n,(jW w c (max (c.1-1) 0) n).length<=n*6:=by
     intro n
     induction n with
     |zero=>simp[jW]
     |succ n ih=>
      unfold jW at ih ⊢
      rw[List.range_succ,List.flatMap_append,List.length_append]
      have:([n].flatMap fun k:Nat=>tW w c (max (c.1-1) 0+(k:Int))).length<=6:=by
       simp only[List.flatMap_cons,List.flatMap_nil,List.append_nil]
       unfold tW
       refine Nat.le_trans (List.length_filter_le _ _) ?_
       rw[List.length_map,List.length_range];exact Sd bx2.1 bn2.2
      exact X7 ih this
    refine cR (lo:=max (c.2-1) 0) (n:=(min (c.2+2) (w:Int)-max (c.2-1) 0).toNat) (fun j σ H3=>∃ v4:Option V,Same H H3/\Ls K H3 q ((jW w c (max (c.1-1) 0) i++((List.range j).map fun k:Nat=>(max (c.1-1) 0+(i:Int),max (c.2-1) 0+(k:Int))).filter fun y=>!decide (y=c)).map ao)/\σ=[some (.ref x),some v,some (.ref q),some (.int (max (c.1-1) 0+(i:Int))),v4])
     ⟨v4,g1,by simpa using g2,rfl⟩ (fun j σ H3 hj hh=>?_) (fun σ H3 hh=>?_)
    ·obtain⟨v4,g1,⟨xs,ex,D⟩,rfl⟩:=hh
     have step:∀ b:Bool,b=!decide ((max (c.1-1) 0+(i:Int),max (c.2-1) 0+(j:Int))=c)->(((List.range (j+1)).map fun k:Nat=>(max (c.1-1) 0+(i:Int),max (c.2-1) 0+(k:Int))).filter fun y=>!decide (y=c))=(((List.range j).map fun k:Nat=>(max (c.1-1) 0+(i:Int),max (c.2-1) 0+(k:Int))).filter fun y=>!decide (y=c))++(if b=true then [(max (c.1-1) 0+(i:Int),max (c.2-1) 0+(j:Int))] else []):=by
      intro b hb
      rw[List.range_succ,List.map_append,List.filter_append,List.map_cons,List.map_nil,List.filter_cons,List.filter_nil,<- hb]
     have ll:xs.length<=100:=by
      rw[D.length,List.length_map,List.length_append]
      have:=pl i
      have h2:(((List.range j).map fun k:Nat=>(max (c.1-1) 0+(i:Int),max (c.2-1) 0+(k:Int))).filter fun y=>!decide (y=c)).length<=j:=Nat.le_trans (List.length_filter_le _ _) (by rw[List.length_map,List.length_range];exact Nat.le_refl _)
      exact Wc this h2 (JL bx1.1 bn1.2 hi) (JL bx2.1 bn2.2 hj)
     refine⟨_,rfl,_,rfl,sz rfl,fun t ht=>?_⟩
     have st:=Same.put (o:=.tup [V.int (max (c.1-1) 0+(i:Int)),V.int (max (c.2-1) 0+(j:Int))]) ht
     refine⟨_,rfl,.inr ⟨ao (max (c.1-1) 0+(i:Int),max (c.2-1) 0+(j:Int)),ao c,rfl,dY,dv.mono (g1.trans st),rfl,uP _,?_⟩⟩
     refine⟨_,rfl,?_⟩
     show if(!eqD _ _)=true then _ else _
     rw[Sw]
     refine fj (fun hb=>?_) (fun hb=>?_)
     ·refine⟨_,rfl,.inl ⟨rfl,_,SqL.of (st _ _ ex)⟩,_,rfl,_,rfl,sz rfl,fun t2 ht2=>?_⟩
      have st2:=Same.put (o:=.tup [V.int (max (c.1-1) 0+(i:Int)),V.int (max (c.2-1) 0+(j:Int))]) ht2
      have e2:=st2 _ _ (st _ _ ex)
      refine⟨q,xs,_,rfl,rfl,e2,ltl (Nat.lt_of_le_of_lt ll (by decide)),?_⟩
      refine⟨_,(SameBut.refl q _).put.of (g1.trans (st.trans st2)) nq,⟨xs++[.ref t2],aA,?_⟩,rfl⟩
      rw[step true hb.symm,<- List.append_assoc,List.map_append]
      exact((SameBut.refl q _).put.cells e2 (D.mono (st.trans st2))).append (.cons ((SameBut.refl q _).put.cell e2 dY) .nil)
     ·refine⟨_,g1.trans st,⟨xs,st _ _ ex,?_⟩,rfl⟩
      rw[step false hb.symm]
      simpa using D.mono st
    ·obtain⟨v4,g1,g2,rfl⟩:=hh
     exact⟨_,_,g1,by rw[base0];exact g2,rfl⟩
   ·obtain⟨v3,v4,g1,g2,rfl⟩:=hh
    exact hR _ _ ⟨v3,v4,⟨g1,nq,g2⟩,rfl⟩
  rintro σ H3 ⟨v3,v4,fr,rfl⟩
  exact⟨_,rfl,hq' q H3 fr⟩
theorem Ay{f:Addr}{fd:FuncData} (F:Fun K "open_near" "open_near" mH f fd) (T:Txt K mg Z) (qt:Df P w K mg base 2 "near" ["view","cell"] (zu K Z.View Z.NoCell)) (cU:Df P w K mg base 2 "is_closed" ["view","cell"] (kW K Z.View)) :
  cu P w K mg base (CXE P w) 3 f fd ["view","cell"] (oW K Z.View aH):=by
 refine F.rok zm (fun vs H Q E h=>?_) (fun cdv A outer s H vs Q E hr h=>?_)
 ·obtain⟨x,v,zs,w,c,rfl,_⟩:=h;rfl
 ·obtain⟨x,v,zs,w,c,rfl,vt,dv,hin,hq⟩:=h
  refine⟨_,(aC (bC (dW (by rfl) rfl (aQ (K:=K) (aV qt hr rfl aU (aj (rv 0) (aj (rv 1) ak)))) (fun _ _ _=>(cL (mq (j5 (aV cU hr rfl aU (aj (rv 1) (aj (rv 0) ak))))))) (fun _ _ _=>(rv 0))))),?_⟩
  refine⟨_,rfl,_,rfl,x,v,zs,w,c,rfl,vt,dv,fun _ q H1 fr=>?_,fun z=>absurd hin z⟩
  obtain⟨xs,ex,D⟩:=fr.ls
  refine⟨q,rfl,⟨_,SqL.of ex⟩,bY (K:=K) (xs:=aZ zs.length w c) (enc:=ao) (bf (SqL.of ex)) D (small (by have:=cT zs.length w c;lia)) (fun y=>!aX zs w y) ao (fun y hy u H2 s2 d G hG=>?_) (fun y hy _ u H2 s2 d G hG=>⟨_,rfl,hG _ _ (Same.refl _) d⟩) (fun ys H2 s2 D2 q2 hq2=>?_)⟩
  ·exact⟨_,rfl,_,rfl,x,u,zs,w,y,rfl,vt.mono (fr.same.trans s2),d,_,rfl,hG _ (Same.refl _)⟩
  ·exact hq q2 _ ⟨fr.same.trans (s2.and hq2),(fr.same.trans s2).free hq2,.new hq2 D2⟩
theorem wB{f:Addr}{fd:FuncData} (F:Fun K "closed_near" "closed_near" jr f fd) (T:Txt K mg Z) (qt:Df P w K mg base 2 "near" ["view","cell"] (zu K Z.View Z.NoCell)) (cU:Df P w K mg base 2 "is_closed" ["view","cell"] (kW K Z.View)) :
  cu P w K mg base (CXE P w) 3 f fd ["view","cell"] (oW K Z.View aB):=by
 refine F.rok vP (fun vs H Q E h=>?_) (fun cdv A outer s H vs Q E hr h=>?_)
 ·obtain⟨x,v,zs,w,c,rfl,_⟩:=h;rfl
 ·obtain⟨x,v,zs,w,c,rfl,vt,dv,hin,hq⟩:=h
  refine⟨_,(aC (bC (dW (by rfl) rfl (aQ (K:=K) (aV qt hr rfl aU (aj (rv 0) (aj (rv 1) ak)))) (fun _ _ _=>(cL (j5 (aV cU hr rfl aU (aj (rv 1) (aj (rv 0) ak)))))) (fun _ _ _=>(rv 0))))),?_⟩
  refine⟨_,rfl,_,rfl,x,v,zs,w,c,rfl,vt,dv,fun _ q H1 fr=>?_,fun z=>absurd hin z⟩
  obtain⟨xs,ex,D⟩:=fr.ls
  refine⟨q,rfl,⟨_,SqL.of ex⟩,bY (K:=K) (xs:=aZ zs.length w c) (enc:=ao) (bf (SqL.of ex)) D (small (by have:=cT zs.length w c;lia)) (fun y=>aX zs w y) ao (fun y hy u H2 s2 d G hG=>?_) (fun y hy _ u H2 s2 d G hG=>⟨_,rfl,hG _ _ (Same.refl _) d⟩) (fun ys H2 s2 D2 q2 hq2=>?_)⟩
  ·exact⟨_,rfl,_,rfl,x,u,zs,w,y,rfl,vt.mono (fr.same.trans s2),d,_,rfl,hG _ (Same.refl _)⟩
  ·exact hq q2 _ ⟨fr.same.trans (s2.and hq2),(fr.same.trans s2).free hq2,.new hq2 D2⟩
theorem Ip{f:Addr}{fd:FuncData} (F:Fun K "closed" "closed" vK f fd) (T:Txt K mg Z) (yj:Df P w K mg base 1 "cells" ["view"] (vU K Z.View)) (cU:Df P w K mg base 2 "is_closed" ["view","cell"] (kW K Z.View)) :
  cu P w K mg base (CXE P w) 3 f fd ["view"] (zq K Z.View fL):=by
 refine F.rok Ji (fun vs H Q E h=>?_) (fun cdv A outer s H vs Q E hr h=>?_)
 ·obtain⟨x,zs,w,rfl,_⟩:=h;rfl
 ·obtain⟨x,zs,w,rfl,vt,hq⟩:=h
  have l36:zs.length*w<=6*6:=Nat.mul_le_mul vt.vw.le vt.vw.w6
  refine⟨_,(aC (bC (dW (by rfl) rfl (aQ (K:=K) (aV yj hr rfl aU (aj (rv 0) ak))) (fun _ _ _=>(cL (j5 (aV cU hr rfl aU (aj (rv 1) (aj (rv 0) ak)))))) (fun _ _ _=>(rv 0))))),?_⟩
  refine⟨_,rfl,x,zs,w,rfl,vt,fun q H1 fr=>?_⟩
  obtain⟨xs,ex,D⟩:=fr.ls
  refine⟨q,rfl,⟨_,SqL.of ex⟩,bY (K:=K) (xs:=bJ zs.length w) (enc:=ao) (bf (SqL.of ex)) D (small (by rw[eG];lia)) (aX zs w) ao (fun y hy u H2 s2 d G hG=>?_) (fun y hy _ u H2 s2 d G hG=>⟨_,rfl,hG _ _ (Same.refl _) d⟩) (fun ys H2 s2 D2 q2 hq2=>?_)⟩
  ·exact⟨_,rfl,_,rfl,x,u,zs,w,y,rfl,vt.mono (fr.same.trans s2),d,_,rfl,hG _ (Same.refl _)⟩
  ·exact hq q2 _ ⟨fr.same.trans (s2.and hq2),(fr.same.trans s2).free hq2,.new hq2 D2⟩
theorem Lf{f:Addr}{fd:FuncData} (F:Fun K "edge" "edge" Ed f fd) (T:Txt K mg Z) (um:Df P w K mg base 3 "closed" ["view"] (zq K Z.View fL)) (cV:Df P w K mg base 3 "open_near" ["view","cell"] (oW K Z.View aH)) :
  cu P w K mg base (CXE P w) 4 f fd ["view"] (zq K Z.View aJ):=by
 refine F.rok QW (fun vs H Q E h=>?_) (fun cdv A outer s H vs Q E hr h=>?_)
 ·obtain⟨x,zs,w,rfl,_⟩:=h;rfl
 ·obtain⟨x,zs,w,rfl,vt,hq⟩:=h
  have l36:=lO vt.vw
  refine⟨_,(aC (bC (dW (by rfl) rfl (aQ (K:=K) (aV um hr rfl aU (aj (rv 0) ak))) (fun _ _ _=>(cL (bD lY (aK (cN (K:=K)) rfl T.cG bK (aj (aV cV hr rfl aU (aj (rv 1) (aj (rv 0) ak))) ak)) aF (cC _)))) (fun _ _ _=>(rv 0))))),?_⟩
  refine⟨_,rfl,x,zs,w,rfl,vt,fun q H1 fr=>?_⟩
  obtain⟨xs,ex,D⟩:=fr.ls
  refine⟨q,rfl,⟨_,SqL.of ex⟩,bY (K:=K) (xs:=fL zs w) (enc:=ao) (bf (SqL.of ex)) D (small (by lia)) (fun y=>decide (0<(aH zs w y).length)) ao (fun y hy u H2 s2 d G hG=>?_) (fun y hy _ u H2 s2 d G hG=>⟨_,rfl,hG _ _ (Same.refl _) d⟩) (fun ys H2 s2 D2 q2 hq2=>?_)⟩
  ·refine⟨_,rfl,_,rfl,x,u,zs,w,y,rfl,vt.mono (fr.same.trans s2),d,eU.mp (List.mem_filter.mp hy).1,fun q3 H3 f3=>?_⟩
   obtain⟨ws,e3,D3⟩:=f3.ls
   refine .inl ⟨q3,_,rfl,.inl (SqL.of e3),_,_,rfl,rfl,_,rfl,?_⟩
   rw[D3.length,List.length_map]
   have e:decide ((0:Int)<((aH zs w y).length:Nat))=decide (0<(aH zs w y).length):=by congr 1;apply propext;lia
   rw[e];exact hG _ f3.same
  ·exact hq q2 _ ⟨fr.same.trans (s2.and hq2),(fr.same.trans s2).free hq2,.new hq2 D2⟩
end
end My
namespace My
open PySem L2
theorem uQ:∀ cs:List Cell,iy (cs.map ao)<=1
 |[]=>Nat.le_of_ble_eq_true rfl
 |c::cs=>by
  show max (lB (ao c)) (iy (cs.map ao))<=1
  exact Nat.max_le.mpr ⟨Nat.le_of_ble_eq_true rfl,uQ cs⟩
theorem zW:∀ ws:List Str,iy (ws.map Dt.str)=0
 |[]=>rfl
 |w::ws=>by rw[List.map_cons];unfold iy;rw[zW ws];rfl
theorem Om(ws:List Str):lB (.lst (ws.map Dt.str))<=50:=by unfold lB;rw[zW];decide
theorem Fw{K:PySem.W.Frag}{H:Hp}{p:Addr}{ws:List Str}(h:H p=some (.lst (ws.map V.str))):Den K H (.ref p) (.lst (ws.map Dt.str)):=.lst (SqL.of h) (aN.strs ws)
theorem K8(zs:List Str)(w:Nat):K7 zs w=aJ zs w:=(Ot zs w).symm
end My
namespace My
open PySem L2
theorem K1{K:PySem.W.Frag}{H:Hp}{xs:List V}{cs:List Cell}{v:V}(D:aN K H xs (cs.map ao))(h:v∈xs):∃ c∈cs,Den K H v (ao c):=by
 obtain⟨i,hi⟩:=List.mem_iff_getElem?.mp h
 obtain⟨d,ed,dd⟩:=D.get hi
 rw[List.getElem?_map] at ed
 obtain⟨c,ec,rfl⟩:=Option.map_eq_some_iff.mp ed
 exact⟨c,List.mem_of_getElem? ec,dd⟩
theorem wZ{K:PySem.W.Frag}{H:Hp}{m:Cell}:∀ {wt:List Cell} {xs:List V},aN K H xs ((wt++[m]).map ao)->∃ ys u,xs=ys++[u]/\aN K H ys (wt.map ao)/\Den K H u (ao m)
 |[],xs,D=>by
  cases D with
  |cons h t=>
   cases t
   exact⟨[],_,rfl,.nil,h⟩
 |c::wt,xs,D=>by
  cases D with
  |cons h t=>
   obtain⟨ys,u,rfl,a,b⟩:=wZ (wt:=wt) t
   exact⟨_::ys,u,rfl,.cons h a,b⟩
theorem Ck{a b:List Cell}(h1:a.Pairwise bF)(h2:b.Pairwise bF)(hm:∀ y,y∈a↔y∈b):a=b:=by
 have pm:a.Perm b:=(List.perm_ext_iff_of_nodup (iH h1) (iH h2)).mpr hm
 refine List.Perm.eq_of_pairwise (le:=bF) (fun x y _ _ h1 h2=>?_) h1 h2 pm
 unfold bF at h1 h2;lia
def Bt(K:PySem.W.Frag)(C:Addr):Sp:=fun vs H Q _=>∃(x:Addr)(v:V)(zs:List Str)(w:Nat)(c:Cell),vs=[.ref x,v]/\fY C H x zs w/\Den K H v (ao c)/\inF zs.length w c/\aX zs w c=false/\Q (.int (cg zs c)) H
section
variable{P:Program}{w:World}{K:PySem.W.Frag}{mg:Str->Option Value}{base:Heap}{Z:Adr}
theorem DN{f:Addr}{fd:FuncData} (F:Fun K "figure" "figure" vL f fd) (T:Txt K mg Z):cu P w K mg base (CXE P w) 1 f fd ["view","cell"] (Bt K Z.View):=by
 refine F.rok Jj (fun vs H Q E h=>?_) (fun cdv A outer s H vs Q E hr h=>?_)
 ·obtain⟨x,v,zs,w,c,rfl,_⟩:=h;rfl
 ·obtain⟨x,v,zs,w,c,rfl,vt,dv,hin,hc,hq⟩:=h
  obtain⟨dx,l,hx,hl⟩:=vt.ob
  have dg:=vt.vw.digit hin hc
  refine⟨_,(aC (bC (iZ wL rfl T.Fe Cu (aj (bR (bZ (K:=K)) (bR (bZ (K:=K)) (jU (K:=K) (rv 0)) (bR (bZ (K:=K)) (rv 1) aF)) (bR (bZ (K:=K)) (rv 1) aF)) ak)))),?_⟩
  obtain⟨⟨a1,a2⟩,⟨a3,a4⟩⟩:=id hin
  have e1:c.1=((c.1.toNat:Nat):Int):=by lia
  have e2:c.2=((c.2.toNat:Nat):Int):=by lia
  have i1:c.1.toNat<zs.length:=by lia
  refine⟨_,rfl,x,Z.View,dx,_,_,rfl,hx,T.dO,T.fG,Dh _ _ _,_,rfl,lZ dv ?_⟩
  rw[e1]
  refine yZ (SqL.of hl) i1 ⟨_,rfl,m8 dv ?_⟩
  rw[e2]
  exact uc (SqL.of hl) vt.vw.toRect i1 (by lia) ⟨_,rfl,dg.1,by lia,hq⟩
end
end My
namespace My
open PySem L2
inductive fU(zs:List Str)(w:Nat)(c:Cell):Cell->Prop
 |base:fU zs w c c
 |step {x t y:Cell}:fU zs w c x->t∈aH zs w x->y∈aB zs w t->fU zs w c y
theorem nW{zs:List Str}{w:Nat}{t y:Cell}(h:y∈aB zs w t):inF zs.length w y/\aX zs w y=true:=by
 unfold aB at h
 obtain⟨h1,h2⟩:=List.mem_filter.mp h
 exact⟨pG h1,h2⟩
theorem Az{zs:List Str}{w:Nat}{t y:Cell}(h:y∈aH zs w t):inF zs.length w y:=by
 unfold aH at h
 exact pG (List.mem_filter.mp h).1
theorem fU.inF{zs:List Str}{w:Nat}{c y:Cell}(h0:L2.inF zs.length w c)(r:fU zs w c y):L2.inF zs.length w y:=by
 cases r with
 |base=>exact h0
 |step _ _ h=>exact(nW h).1
def iz(cs:List Cell):List (List Key×V):=cs.map fun c=>(gG c,V.bl true)
theorem qI(c:Cell):∀ cs:List Cell,nT (iz cs) (gG c)=if c∈cs then some (.bl true) else none
 |[]=>rfl
 |a::cs=>by
  show nT ((gG a,V.bl true)::iz cs) (gG c)=_
  by_cases e:a=c
  ·subst e
   rw[mR rfl,if_pos List.mem_cons_self]
  ·rw[mQ (fun z=>e (vf z)),qI c cs]
   by_cases m:c∈cs
   ·rw[if_pos m,if_pos (List.mem_cons_of_mem _ m)]
   ·rw[if_neg m,if_neg (fun z=>(List.mem_cons.mp z).elim (fun q=>e q.symm) m)]
theorem HJ(cs:List Cell)(c:Cell)(nc:c∉cs):putK (iz cs) (gG c) (.bl true)=iz (cs++[c]):=by
 rw[Bc _ (by rw[qI,if_neg nc])]
 unfold iz
 rw[List.map_append];rfl
structure lG(zs:List Str)(w:Nat)(c:Cell)(fd wt:List Cell):Prop where
 nd:fd.Nodup
 has:c∈fd
 rch:∀ y∈fd,fU zs w c y
 sub:∀ y∈wt,y∈fd
 cl:∀ x∈fd,x∉wt->∀ t∈aH zs w x,∀ y∈aB zs w t,y∈fd
 ln:wt.length<=fd.length
theorem lG.len{zs:List Str}{w:Nat}{c:Cell}{fd wt:List Cell}(j:lG zs w c fd wt)(h0:inF zs.length w c)(h6:zs.length<=6)(w6:w<=6):fd.length<=36:=by
 have:=iW (l2:=bJ zs.length w) j.nd fun y hy=>eU.mpr ((j.rch y hy).inF h0)
 rw[eG] at this
 have:zs.length*w<=6*6:=Nat.mul_le_mul h6 w6
 lia
theorem lG.done{zs:List Str}{w:Nat}{c:Cell}{fd:List Cell}(j:lG zs w c fd [])(y:Cell):y∈fd↔fU zs w c y:=by
 refine⟨j.rch y,fun r=>?_⟩
 induction r with
 |base=>exact j.has
 |step _ ht hy ih=>exact j.cl _ ih (by intro z;cases z) _ ht _ hy
structure JoP(zs:List Str)(w:Nat)(c m:Cell)(fd wt:List Cell)(Dn:Cell->Prop):Prop where
 nd:fd.Nodup
 has:c∈fd
 rch:∀ y∈fd,fU zs w c y
 sub:∀ y∈wt,y∈fd
 hm:m∈fd
 cl:∀ x∈fd,x∉wt->x≠m->∀ t∈aH zs w x,∀ y∈aB zs w t,y∈fd
 ln:wt.length+1<=fd.length
 dn:∀ y,Dn y->y∈fd
theorem JoP.imp{zs:List Str}{w:Nat}{c m:Cell}{fd wt:List Cell}{Dn Dn':Cell->Prop}(j:JoP zs w c m fd wt Dn)(h:∀ y,Dn' y->y∈fd):JoP zs w c m fd wt Dn':=⟨j.nd,j.has,j.rch,j.sub,j.hm,j.cl,j.ln,h⟩
theorem JoP.add{zs:List Str}{w:Nat}{c m y:Cell}{fd wt:List Cell}{Dn:Cell->Prop}(j:JoP zs w c m fd wt Dn)(ny:y∉fd)(ry:fU zs w c y):JoP zs w c m (fd++[y]) (wt++[y]) Dn:=by
 refine⟨List.nodup_append.mpr ⟨j.nd,by simp,fun a ha b hb e=>ny (by rw[<- List.mem_singleton.mp hb,<- e];exact ha)⟩,List.mem_append_left _ j.has,fun x hx=>?_,fun x hx=>?_,List.mem_append_left _ j.hm,fun x hx nx xm t ht z hz=>?_,?_,fun x hx=>List.mem_append_left _ (j.dn x hx)⟩
 ·rcases List.mem_append.mp hx with q|q
  ·exact j.rch x q
  ·rw[List.mem_singleton.mp q];exact ry
 ·rcases List.mem_append.mp hx with q|q
  ·exact List.mem_append_left _ (j.sub x q)
  ·exact List.mem_append_right _ q
 ·rcases List.mem_append.mp hx with q|q
  ·exact List.mem_append_left _ (j.cl x q (fun q2=>nx (List.mem_append_left _ q2)) xm t ht z hz)
  ·exact absurd (List.mem_append_right _ q) nx
 ·have:=j.ln
  rw[List.length_append,List.length_append,List.length_singleton];lia
theorem lG.pop{zs:List Str}{w:Nat}{c m:Cell}{fd wt:List Cell}(j:lG zs w c fd (wt++[m])):JoP zs w c m fd wt (fun _=>False):=by
 refine⟨j.nd,j.has,j.rch,fun y hy=>j.sub y (List.mem_append_left _ hy),j.sub m (List.mem_append_right _ (List.mem_singleton.mpr rfl)),fun x hx nx xm=>j.cl x hx fun z=>?_,?_,fun y hy=>hy.elim⟩
 ·rcases List.mem_append.mp z with q|q
  ·exact nx q
  ·exact xm (List.mem_singleton.mp q)
 ·have:=j.ln
  rw[List.length_append,List.length_singleton] at this;exact this
theorem JoP.inv{zs:List Str}{w:Nat}{c m:Cell}{fd wt:List Cell}{Dn:Cell->Prop}(j:JoP zs w c m fd wt Dn)(h:∀ t∈aH zs w m,∀ y∈aB zs w t,Dn y):lG zs w c fd wt:=by
 refine⟨j.nd,j.has,j.rch,j.sub,fun x hx nx t ht y hy=>?_,Nat.le_trans (Nat.le_succ _) j.ln⟩
 by_cases e:x=m
 ·subst e;exact j.dn y (h t ht y hy)
 ·exact j.cl x hx nx e t ht y hy
theorem JoP.len{zs:List Str}{w:Nat}{c m:Cell}{fd wt:List Cell}{Dn:Cell->Prop}(j:JoP zs w c m fd wt Dn)(h0:inF zs.length w c)(h6:zs.length<=6)(w6:w<=6):fd.length<=36:=by
 have:=iW (l2:=bJ zs.length w) j.nd fun y hy=>eU.mpr ((j.rch y hy).inF h0)
 rw[eG] at this
 have:zs.length*w<=6*6:=Nat.mul_le_mul h6 w6
 lia
def Bu(K:PySem.W.Frag)(C:Addr):Sp:=fun vs H Q _=>∃(x:Addr)(v:V)(zs:List Str)(w:Nat)(c:Cell),vs=[.ref x,v]/\fY C H x zs w/\Den K H v (ao c)/\inF zs.length w c /\
 ∀(q:Addr)(H':Hp)(ds:List Cell),H q=none->Same H H'->Ls K H' q (ds.map ao)->ds.Pairwise bF->(∀ y,y∈ds↔fU zs w c y)->Q (.ref q) H'
section
variable{P:Program}{w:World}{K:PySem.W.Frag}{mg:Str->Option Value}{base:Heap}{Z:Adr}
theorem Iu{f:Addr}{fd:FuncData} (F:Fun K "joined" "joined" vN f fd) (T:Txt K mg Z) (cV:Df P w K mg base 3 "open_near" ["view","cell"] (oW K Z.View aH)) (eF:Df P w K mg base 3 "closed_near" ["view","cell"] (oW K Z.View aB)) :
  cu P w K mg base (CXE P w) 4 f fd ["view","cell"] (Bu K Z.View):=by
 refine F.rok iJ (fun vs H Q E h=>?_) (fun cdv A outer s H vs Q E hr h=>?_)
 ·obtain⟨x,v,zs,w,c,rfl,_⟩:=h;rfl
 ·obtain⟨x,v,zs,w,c,rfl,vt,dv,hin,hq⟩:=h
  have hu:=oG hr
  have z6:=vt.vw.le
  have w6:=vt.vw.w6
  obtain⟨tv,rfl,_,htv⟩:=dD dv
  refine⟨_,(au (aL (i:=2) iJ.nd rfl (by first|exact Or.inl rfl|exact Or.inr rfl) (QJ hu (rv 1) vG)) (au (aL (i:=3) iJ.nd rfl (by first|exact Or.inl rfl|exact Or.inr rfl) (cQ (aj (rv 1) ak))) (au (Bl PassesOwn.never (bD lY (aK (cN (K:=K)) rfl T.cG bK (aj (rv 3) ak)) aF (cC _)) (au (aL (i:=4) iJ.nd rfl (by first|exact Or.inl rfl|exact Or.inr rfl) (Tn (K:=K) PySem.F.plainAttrs_list PySem.F.slot_list_pop PySem.F.type_list_pop TJ (rv 3))) (aC (bW PassesOwn.never rfl (aQ (K:=K) (aV cV hr rfl aU (aj (rv 0) (aj (rv 4) ak)))) (aR (i:=5) iJ.nd rfl (by first|exact Or.inl rfl|exact Or.inr rfl)) (aC (bW PassesOwn.never rfl (aQ (K:=K) (aV eF hr rfl aU (aj (rv 0) (aj (rv 5) ak)))) (aR (i:=6) iJ.nd rfl (by first|exact Or.inl rfl|exact Or.inr rfl)) (aC (dM (bD (yV hu) (rv 6) (rv 2) (by rfl)) (au (kh vG (z9 (rv 2) (rv 6) (set_dict hu))) (aC (fP (jA (K:=K) PySem.F.plainAttrs_list PySem.F.slot_list_append PySem.F.type_list_append cO (rv 3) (aj (rv 6) ak))))) bU)))))))) (aC (bC (aK (Pa (K:=K) rfl hu) rfl T.lN mV (aj (rv 2) ak))))))),?_⟩
  refine aD (fun σ H1=>∃ dd:Addr,H dd=none/\Same H H1/\H1 dd=some (.dT (iz [c]))/\σ=[some (.ref x),some (.ref tv),some (.ref dd),none,none,none,none]) (fun R hR=>?_) ?_
  ·refine fun dd nd=>⟨_,rfl,gG c,tv,aA,rfl,?_,hR _ _ ⟨dd,nd,(SameBut.refl dd _).put.of (Same.put nd) nd,aA,rfl⟩⟩
   rw[aO (bG htv nd)];exact htv
  rintro σ H1 ⟨dd,nd,s1,ed,rfl⟩
  refine aD (fun σ H2=>∃ wl:Addr,H wl=none/\wl≠dd/\Same H1 H2/\H2 wl=some (.lst [.ref tv])/\σ=[some (.ref x),some (.ref tv),some (.ref dd),some (.ref wl),none,none,none]) (fun R hR=>?_) ?_
  ·exact⟨_,rfl,sz rfl,fun wl nwl=>hR _ _ ⟨wl,s1.free nwl,(bG ed nwl).symm,Same.put nwl,aA,rfl⟩⟩
  rintro σ H2 ⟨wl,nwl,nwd,s2,ewl,rfl⟩
  have start:lG zs w c [c] [c]:=⟨by simp,List.mem_singleton.mpr rfl,fun y hy=>by rw[List.mem_singleton.mp hy];exact .base,fun y hy=>hy,fun x hx nx=>absurd hx nx,Nat.le_refl _⟩
  refine aD (fun σ H3=>∃(fd:List Cell)(v4 v5 v6:Option V),Same H H3/\H3 dd=some (.dT (iz fd))/\lG zs w c fd []/\σ=[some (.ref x),some (.ref tv),some (.ref dd),some (.ref wl),v4,v5,v6]) (fun R hR=>?_) ?_
  ·refine⟨fun m σ H'=>∃(fd wt:List Cell)(v4 v5 v6:Option V),Same H H'/\H' dd=some (.dT (iz fd))/\Ls K H' wl (wt.map ao)/\lG zs w c fd wt/\m=(36-fd.length)*2+wt.length/\σ=[some (.ref x),some (.ref tv),some (.ref dd),some (.ref wl),v4,v5,v6],
    ⟨_,[c],[c],none,none,none,s1.trans s2,s2 _ _ ed,⟨_,ewl,.cons (dv.mono (s1.trans s2)) .nil⟩,start,rfl,rfl⟩,?_⟩
   rintro m σ H' ⟨fd,wt,v4,v5,v6,sh,ed',lw,ji,rfl,rfl⟩
   obtain⟨xs,ex,D⟩:=id lw
   have lx:xs.length=wt.length:=by rw[D.length,List.length_map]
   have f36:=ji.len hin z6 w6
   refine⟨_,rfl,.inl ⟨wl,_,rfl,.inl (SqL.of ex),_,_,rfl,rfl,_,rfl,?_⟩⟩
   refine fj (fun hlt=>?_) (fun hlt=>?_)
   ·have hlt:(0:Int)<(xs.length:Int):=of_decide_eq_true hlt
    obtain⟨wt,m,rfl⟩:∃ wt' m,wt=wt'++[m]:=by
     rcases List.eq_nil_or_concat wt with z|⟨l,b,z⟩
     ·rw[z,List.length_nil] at lx;lia
     ·exact⟨l,b,by rw[z];simp⟩
    obtain⟨xs,u,rfl,Dx,du⟩:=wZ D
    obtain⟨tm,rfl,_,htm⟩:=dD du
    have mfd:=ji.sub m (List.mem_append_right _ (List.mem_singleton.mpr rfl))
    have Ye:=(ji.rch m mfd).inF hin
    refine⟨fun σ' H4=>∃(fd' wt':List Cell)(v4 v5 v6:Option V),Same H H4/\H4 dd=some (.dT (iz fd'))/\Ls K H4 wl (wt'.map ao)/\lG zs w c fd' wt'/\(36-fd'.length)*2+wt'.length<(36-fd.length)*2+(wt++[m]).length/\σ'=[some (.ref x),some (.ref tv),some (.ref dd),some (.ref wl),v4,v5,v6],fun σ' H4 hx=>?_,?_⟩
    ·obtain⟨fd',wt',v4,v5,v6,a1,a2,a3,a4,a5,rfl⟩:=hx
     exact⟨_,a5,fd',wt',v4,v5,v6,a1,a2,a3,a4,rfl,rfl⟩
    refine aD (fun σ H4=>Same H H4/\H4 dd=some (.dT (iz fd))/\Ls K H4 wl (wt.map ao)/\Den K H4 (.ref tm) (ao m)/\σ=[some (.ref x),some (.ref tv),some (.ref dd),some (.ref wl),some (.ref tm),v5,v6]) (fun R' hR'=>?_) ?_
    ·refine⟨_,rfl,.inl ⟨rfl,_,SqL.of ex⟩,wl,_,V.ref tm,rfl,rfl,ex,(by simp),?_⟩
     rw[List.dropLast_concat]
     have sw:SameBut wl H' (upd H' wl (.lst xs)):=(SameBut.refl wl _).put
     exact hR' _ _ ⟨sw.of sh nwl,sw _ _ ed' nwd.symm,⟨xs,aA,sw.cells ex Dx⟩,sw.cell ex du,rfl⟩
    rintro σ H4 ⟨sh4,ed4,lw4,dm4,rfl⟩
    have YC:(wt++[m]).length=wt.length+1:=by rw[List.length_append,List.length_singleton]
    refine⟨_,rfl,_,rfl,x,_,zs,w,m,rfl,vt.mono sh4,dm4,Ye,fun q1 H5 f5=>?_⟩
    obtain⟨ts,et,Dt'⟩:=f5.ls
    have lt8:=pJ zs w m
    refine⟨q1,rfl,⟨_,SqL.of et⟩,?_⟩
    have nq1:H q1=none:=sh4.free f5.new
    refine cX (K:=K) (xs:=ts) (fun i σ H6=>∃(fd' wt':List Cell)(v5 v6:Option V),Same H H6/\H6 q1=some (.lst ts)/\aN K H6 ts ((aH zs w m).map ao)/\H6 dd=some (.dT (iz fd'))/\Ls K H6 wl (wt'.map ao)/\JoP zs w c m fd' wt' (fun y=>∃ t∈(aH zs w m).take i,y∈aB zs w t)/\(36-fd'.length)*2+wt'.length<=(36-fd.length)*2+wt.length/\σ=[some (.ref x),some (.ref tv),some (.ref dd),some (.ref wl),some (.ref tm),v5,v6])
     ⟨fd,wt,v5,v6,sh4.trans f5.same,et,Dt',f5.same _ _ ed4,lw4.mono f5.same,ji.pop.imp (fun y hy=>by obtain⟨t,ht,_⟩:=hy;cases ht),Nat.le_refl _,rfl⟩ (fun i σ H6 _ hh=>by obtain⟨_,_,_,_,_,e,_⟩:=hh;exact SqL.of e) (fun i u σ H6 hu' hh=>?_) (fun σ H6 hh=>?_)
    ·obtain⟨fd1,wt1,v5,v6,sh6,et6,Dt6,ed6,lw6,jp,me,rfl⟩:=hh
     obtain⟨dt,edt,du6⟩:=Dt6.get hu'
     rw[List.getElem?_map] at edt
     obtain⟨t,etq,rfl⟩:=Option.map_eq_some_iff.mp edt
     have Xh:t∈aH zs w m:=List.mem_of_getElem? etq
     refine⟨_,rfl,_,rfl,x,_,zs,w,t,rfl,vt.mono sh6,du6,Az Xh,fun q2 H7 f7=>?_⟩
     obtain⟨os,eo,Do⟩:=f7.ls
     refine⟨q2,rfl,⟨_,SqL.of eo⟩,?_⟩
     have los:os.length=(aB zs w t).length:=by rw[Do.length,List.length_map]
     refine cX (K:=K) (xs:=os) (fun j σ H8=>∃(fd' wt':List Cell)(v6:Option V),Same H H8/\H8 q1=some (.lst ts)/\aN K H8 ts ((aH zs w m).map ao)/\H8 q2=some (.lst os)/\aN K H8 os ((aB zs w t).map ao)/\H8 dd=some (.dT (iz fd'))/\Ls K H8 wl (wt'.map ao)/\JoP zs w c m fd' wt' (fun y=>(∃ t∈(aH zs w m).take i,y∈aB zs w t)\/y∈(aB zs w t).take j)/\(36-fd'.length)*2+wt'.length<=(36-fd.length)*2+wt.length/\σ=[some (.ref x),some (.ref tv),some (.ref dd),some (.ref wl),some (.ref tm),some u,v6])
      ⟨fd1,wt1,v6,sh6.trans f7.same,f7.same _ _ et6,Dt6.mono f7.same,eo,Do,f7.same _ _ ed6,lw6.mono f7.same,jp.imp (fun y hy=>hy.elim (jp.dn y) (fun z=>by cases z)),me,rfl⟩ (fun j σ H8 _ hh=>by obtain⟨_,_,_,_,_,_,e,_⟩:=hh;exact SqL.of e) (fun j o σ H8 ho hh=>?_) (fun σ H8 hh=>?_)
     ·obtain⟨fd2,wt2,v6,sh8,et8,Dt8,eo8,Do8,ed8,lw8,jp2,me2,rfl⟩:=hh
      obtain⟨dy,edy,do8⟩:=Do8.get ho
      rw[List.getElem?_map] at edy
      obtain⟨y,ey,rfl⟩:=Option.map_eq_some_iff.mp edy
      have YD:y∈aB zs w t:=List.mem_of_getElem? ey
      obtain⟨ty,rfl,_,hty⟩:=dD do8
      have key:H8 ty=some (.tup ((gG y).map kV)):=hty
      have YH:=jp2.len hin z6 w6
      have step:∀ z,(∃ t∈(aH zs w m).take i,z∈aB zs w t)\/z∈(aB zs w t).take (j+1)->((∃ t∈(aH zs w m).take i,z∈aB zs w t)\/z∈(aB zs w t).take j)\/z=y:=fun z hz=>by
       rcases hz with q|q
       ·exact .inl (.inl q)
       ·rw[List.take_succ,ey] at q
        rcases List.mem_append.mp q with q|q
        ·exact .inl (.inr q)
        ·exact .inr (List.mem_singleton.mp q)
      refine⟨_,rfl,_,rfl,dd,_,rfl,sY.t ed8 key,_,rfl,?_⟩
      rw[qI]
      by_cases hf:y∈fd2
      ·rw[if_pos hf]
       exact nQ ⟨fd2,wt2,_,sh8,et8,Dt8,eo8,Do8,ed8,lw8,jp2.imp (fun z hz=>(step z hz).elim (jp2.dn z) (fun e=>by rw[e];exact hf)),me2,rfl⟩
      ·rw[if_neg hf]
       refine tH ?_
       have jp3:=jp2.add hf (.step (jp2.rch m jp2.hm) Xh YD)
       have VP:=jp3.len hin z6 w6
       rw[List.length_append,List.length_singleton] at VP
       refine aD (fun σ H9=>Same H H9/\H9 q1=some (.lst ts)/\aN K H9 ts ((aH zs w m).map ao)/\H9 q2=some (.lst os)/\aN K H9 os ((aB zs w t).map ao)/\H9 dd=some (.dT (iz (fd2++[y])))/\Ls K H9 wl (wt2.map ao)/\Den K H9 (.ref ty) (ao y)/\σ=[some (.ref x),some (.ref tv),some (.ref dd),some (.ref wl),some (.ref tm),some u,some (.ref ty)]) (fun R' hR'=>?_) ?_
       ·refine⟨_,rfl,_,rfl,dd,_,rfl,BZ.t ed8 key (ltl (by unfold iz;rw[List.length_map];lia)),?_⟩
        rw[HJ fd2 y hf]
        have sd:SameBut dd H8 (upd H8 dd (.dT (iz (fd2++[y])))):=(SameBut.refl dd _).put
        have tp:yp H8 (upd H8 dd (.dT (iz (fd2++[y])))):=.put ed8 (by intro xs z;cases z)
        obtain⟨ws,ew,Dw⟩:=lw8
        exact hR' _ _ ⟨sd.of sh8 nd,sd _ _ et8 (pH et8 ed8 (by intro z;cases z)),tp.cells Dt8,sd _ _ eo8 (pH eo8 ed8 (by intro z;cases z)),tp.cells Do8,aA,⟨ws,sd _ _ ew nwd,tp.cells Dw⟩,tp.cell do8,rfl⟩
       rintro σ H9 ⟨sh9,et9,Dt9,eo9,Do9,ed9,⟨ws,ew,Dw⟩,dy9,rfl⟩
       have lws:ws.length=wt2.length:=by rw[Dw.length,List.length_map]
       have ln2:=jp2.ln
       have Ym:q1≠wl:=fun z=>by
        have e1:=f5.new
        rw[z] at e1
        obtain⟨_,e2,_⟩:=lw4
        rw[e2] at e1;cases e1
       have Yn:q2≠wl:=fun z=>by
        have e1:=f7.new
        rw[z] at e1
        obtain⟨_,e2,_⟩:=lw6
        rw[e2] at e1;cases e1
       refine⟨_,rfl,.inl ⟨rfl,_,SqL.of ew⟩,_,rfl,wl,ws,_,rfl,rfl,ew,ltl (by lia),?_⟩
       have sw:SameBut wl H9 (upd H9 wl (.lst (ws++[V.ref ty]))):=(SameBut.refl wl _).put
       refine⟨fd2++[y],wt2++[y],_,sw.of sh9 nwl,sw _ _ et9 Ym,sw.cells ew Dt9,sw _ _ eo9 Yn,sw.cells ew Do9,sw _ _ ed9 nwd.symm,⟨_,aA,?_⟩,jp3.imp (fun z hz=>(step z hz).elim (fun q=>List.mem_append_left _ (jp2.dn z q)) (fun e=>List.mem_append_right _ (List.mem_singleton.mpr e))),?_,rfl⟩
       ·rw[List.map_append]
        exact(sw.cells ew Dw).append (.cons (sw.cell ew dy9) .nil)
       ·rw[List.length_append,List.length_append,List.length_singleton];lia
     ·obtain⟨fd2,wt2,v6,sh8,et8,Dt8,eo8,Do8,ed8,lw8,jp2,me2,rfl⟩:=hh
      refine⟨fd2,wt2,_,v6,sh8,et8,Dt8,ed8,lw8,jp2.imp (fun y hy=>?_),me2,rfl⟩
      obtain⟨t',ht',hy'⟩:=hy
      rw[List.take_succ,etq] at ht'
      rcases List.mem_append.mp ht' with q|q
      ·exact jp2.dn y (.inl ⟨t',q,hy'⟩)
      ·rw[List.mem_singleton.mp q] at hy'
       exact jp2.dn y (.inr (by rw[los,List.take_length];exact hy'))
    ·obtain⟨fd1,wt1,v5,v6,sh6,et6,Dt6,ed6,lw6,jp,me,rfl⟩:=hh
     have lts:ts.length=(aH zs w m).length:=by rw[Dt'.length,List.length_map]
     refine⟨fd1,wt1,_,v5,v6,sh6,ed6,lw6,jp.inv fun t ht y hy=>⟨t,by rw[lts,List.take_length];exact ht,hy⟩,by rw[YC];lia,rfl⟩
   ·have hlt:¬(0:Int)<(xs.length:Int):=of_decide_eq_false hlt
    have:wt=[]:=List.length_eq_zero_iff.mp (by lia)
    subst this
    exact hR _ _ ⟨fd,v4,v5,v6,sh,ed',ji,rfl⟩
  rintro σ H3 ⟨fd,v4,v5,v6,s3,ed3,ji,rfl⟩
  have f36:=ji.len hin z6 w6
  refine⟨_,rfl,dd,fd,fun _=>.bl true,rfl,ed3,by lia,fun l ws ds hn D' pc as=>?_⟩
  exact hq l _ ds (s3.free hn) (s3.and hn) (.new hn D') (Cm as (pc.nodup_iff.mpr ji.nd)) fun y=>by rw[pc.mem_iff];exact ji.done y
end
open Classical in
noncomputable def bQ(zs:List Str)(w:Nat)(c:Cell):List Cell:=(bJ zs.length w).filter fun y=>decide (fU zs w c y)
open Classical in
theorem dG{zs:List Str}{w:Nat}{c y:Cell}(h0:inF zs.length w c):y∈bQ zs w c↔fU zs w c y:=by
 unfold bQ
 rw[List.mem_filter,eU,decide_eq_true_iff]
 exact⟨fun h=>h.2,fun h=>⟨h.inF h0,h⟩⟩
open Classical in
theorem jy{zs:List Str}{w:Nat}{c:Cell}(h6:zs.length<=6)(w6:w<=6):(bQ zs w c).Pairwise bF:=by
 unfold bQ
 exact(xq zs.length (List.mem_range.mpr (by lia)) w (List.mem_range.mpr (by lia))).filter _
open Classical in
noncomputable def fB(zs:List Str)(w:Nat):List Cell->List (List Cell)->List (List Cell)
 |[],ps=>ps
 |c::cs,ps=>if ∃ p∈ps,c∈p then fB zs w cs ps else fB zs w cs (ps++[bQ zs w c])
noncomputable def fZ(zs:List Str)(w:Nat):List (List Cell):=fB zs w (aJ zs w) []
structure lH(K:PySem.W.Frag)(H0 H:Hp)(q:Addr)(qs:List Addr)(ps:List (List Cell)):Prop where
 at_:H q=some (.lst (qs.map V.ref))
 len:qs.length=ps.length
 ls:∀(i:Nat)(a:Addr)(p:List Cell),qs[i]?=some a->ps[i]?=some p->Ls K H a (p.map ao)
 new:∀ a∈qs,H0 a=none
 nd:qs.Nodup
 nq:q∉qs
theorem lH.mono{K:PySem.W.Frag}{H0 H H':Hp}{q:Addr}{qs:List Addr}{ps:List (List Cell)}(p:lH K H0 H q qs ps)(s:Same H H'):lH K H0 H' q qs ps:=⟨s _ _ p.at_,p.len,fun i a c h1 h2=>(p.ls i a c h1 h2).mono s,p.new,p.nd,p.nq⟩
theorem lH.snoc{K:PySem.W.Frag}{H0 H:Hp}{q a:Addr}{qs:List Addr}{ps:List (List Cell)}{ds:List Cell}(p:lH K H0 H q qs ps)(la:Ls K H a (ds.map ao))(na:H0 a=none)(n1:a∉qs)(n2:a≠q):lH K H0 (upd H q (.lst (qs.map V.ref++[.ref a]))) q (qs++[a]) (ps++[ds]):=by
 have sb:SameBut q H (upd H q (.lst (qs.map V.ref++[.ref a]))):=(SameBut.refl q _).put
 refine⟨by rw[aA,List.map_append];rfl,by rw[List.length_append,List.length_append,p.len];rfl,fun i b c h1 h2=>?_,fun b hb=>?_,?_,fun z=>?_⟩
 ·by_cases hi:i<qs.length
  ·rw[List.getElem?_append_left hi] at h1
   rw[List.getElem?_append_left (by rw[<- p.len];exact hi)] at h2
   exact sb.ls p.at_ (fun z=>p.nq (by rw[<- z];exact List.mem_of_getElem? h1)) (p.ls i b c h1 h2)
  ·rw[List.getElem?_append_right (by lia)] at h1
   rw[List.getElem?_append_right (by rw[<- p.len];lia)] at h2
   have e1:i-qs.length=0:=by
    by_cases z:i-qs.length=0
    ·exact z
    ·rw[List.getElem?_eq_none (by rw[List.length_singleton];lia)] at h1;cases h1
   rw[e1] at h1
   rw[<- p.len,e1] at h2
   cases h1;cases h2
   exact sb.ls p.at_ n2 la
 ·rcases List.mem_append.mp hb with z|z
  ·exact p.new b z
  ·rw[List.mem_singleton.mp z];exact na
 ·exact List.nodup_append.mpr ⟨p.nd,by simp,fun x hx y hy e=>n1 (by rw[<- List.mem_singleton.mp hy,<- e];exact hx)⟩
 ·rcases List.mem_append.mp z with y|y
  ·exact p.nq y
  ·exact n2 (List.mem_singleton.mp y).symm
end My
namespace My
open PySem L2
theorem La:∀ d∈offs,(-d.1,-d.2)∈offs:=by decide
theorem iI{h w:Int}{x y:Cell}(hy:y∈aZ h w x)(hx:inF h w x):x∈aZ h w y:=by
 unfold aZ at hy ⊢
 obtain⟨h1,_⟩:=List.mem_filter.mp hy
 obtain⟨d,hd,rfl⟩:=List.mem_map.mp h1
 refine List.mem_filter.mpr ⟨List.mem_map.mpr ⟨_,La d hd,?_⟩,decide_eq_true hx⟩
 exact Prod.ext (by show x.1+d.1 + -d.1=x.1;lia) (by show x.2+d.2 + -d.2=x.2;lia)
theorem jC{zs:List Str}{w:Nat}{x:Cell}:x∈aJ zs w↔aX zs w x=true/\∃ t,t∈aH zs w x:=by
 unfold aJ
 rw[List.mem_filter,iD,Ht,decide_eq_true_iff]
 refine and_congr_right fun _=>?_
 constructor
 ·intro h
  cases e:aH zs w x with
  |nil=>rw[e] at h;exact absurd h (Nat.lt_irrefl _)
  |cons t ts=>exact⟨t,List.mem_cons_self⟩
 ·rintro⟨t,ht⟩
  exact List.length_pos_of_mem ht
theorem gD{zs:List Str}{w:Nat}{x:Cell}(h:x∈aJ zs w):inF zs.length w x:=by
 have:=(jC.mp h).1
 unfold aX at this
 rw[Bool.and_eq_true] at this
 exact of_decide_eq_true this.1
theorem xV{zs:List Str}{w:Nat}(h6:zs.length<=6)(w6:w<=6):(aJ zs w).Pairwise bF:=by
 unfold aJ fL
 exact((xq zs.length (List.mem_range.mpr (by lia)) w (List.mem_range.mpr (by lia))).filter _).filter _
theorem lu{zs:List Str}{w:Nat}{t y:Cell}(hin:inF zs.length w t)(ho:aX zs w t=false)(hy:y∈aB zs w t):y∈aJ zs w:=by
 unfold aB at hy
 obtain⟨h1,h2⟩:=List.mem_filter.mp hy
 refine jC.mpr ⟨h2,t,?_⟩
 unfold aH
 exact List.mem_filter.mpr ⟨iI h1 hin,by rw[ho];rfl⟩
theorem dh{zs:List Str}{w:Nat}{x t:Cell}(h:t∈aH zs w x):inF zs.length w t/\aX zs w t=false/\t∈aZ zs.length w x:=by
 unfold aH at h
 obtain⟨h1,h2⟩:=List.mem_filter.mp h
 exact⟨pG h1,by simpa using h2,h1⟩
theorem fU.trans{zs:List Str}{w:Nat}{a b c:Cell}(r1:fU zs w a b)(r2:fU zs w b c):fU zs w a c:=by
 induction r2 with
 |base=>exact r1
 |step _ h1 h2 ih=>exact .step ih h1 h2
theorem fU.Gn{zs:List Str}{w:Nat}{t x y:Cell}(hin:L2.inF zs.length w t)(ho:aX zs w t=false)(hx:x∈aZ zs.length w t)(hy:y∈aZ zs.length w t)(cy:aX zs w y=true):fU zs w x y:=by
 refine .step .base (t:=t) ?_ ?_
 ·unfold aH
  exact List.mem_filter.mpr ⟨iI hx hin,by rw[ho];rfl⟩
 ·unfold aB
  exact List.mem_filter.mpr ⟨hy,cy⟩
theorem fU.symm{zs:List Str}{w:Nat}{a b:Cell}(ca:aX zs w a=true)(ia:L2.inF zs.length w a)(r:fU zs w a b):fU zs w b a:=by
 induction r with
 |base=>exact .base
 |@step x t y rx ht hy ih=>
  obtain⟨tin,yd,tx⟩:=dh ht
  have xin:=rx.inF ia
  have cx:aX zs w x=true:=by
   cases rx with
   |base=>exact ca
   |step _ _ h=>exact(nW h).2
  unfold aB at hy
  obtain⟨h1,h2⟩:=List.mem_filter.mp hy
  exact(fU.Gn tin yd h1 (iI tx xin) cx).trans ih
theorem fU.edge{zs:List Str}{w:Nat}{a b:Cell}(ha:a∈aJ zs w)(r:fU zs w a b):b∈aJ zs w:=by
 cases r with
 |base=>exact ha
 |step _ ht hy=>
  obtain⟨tin,yd,_⟩:=dh ht
  exact lu tin yd hy
def nmS(E:List Cell)(nm:Cell->Int)(ns:List Cell):List Int:=(ns.filter fun c=>decide (c∈E)).map nm
theorem Pz{E:List Cell}{nm:Cell->Int}{ns:List Cell}{m:Int}:m∈nmS E nm ns↔∃ c∈E,c∈ns/\nm c=m:=by
 unfold nmS
 rw[List.mem_map]
 constructor
 ·rintro⟨c,hc,e⟩
  obtain⟨h1,h2⟩:=List.mem_filter.mp hc
  exact⟨c,of_decide_eq_true h2,h1,e⟩
 ·rintro⟨c,h1,h2,e⟩
  exact⟨c,List.mem_filter.mpr ⟨h2,decide_eq_true h1⟩,e⟩
structure Names(zs:List Str)(w:Nat)(E:List Cell)(dn:Cell->Prop)(nm:Cell->Int):Prop where
 snd:∀ c∈E,∀ d∈E,nm c=nm d->fU zs w c d
 cpl:∀ t,dn t->∀ c∈E,∀ d∈E,c∈aZ zs.length w t->d∈aZ zs.length w t->nm c=nm d
 ldr:∀ c∈E,∃(i:Nat)(d:Cell),E[i]?=some d/\nm c=i/\nm d=i
 low:∀(i:Nat)(d:Cell),E[i]?=some d->nm d<=i
def mrg(S:List Int)(M:Int)(nm:Cell->Int):Cell->Int:=fun c=>if nm c∈S then M else nm c
theorem Names.step{zs:List Str}{w:Nat}{dn:Cell->Prop}{nm:Cell->Int}{t:Cell}{M:Int}(N:Names zs w (aJ zs w) dn nm)(tin:inF zs.length w t)(to:aX zs w t=false)
  (hM:nmS (aJ zs w) nm (aZ zs.length w t)≠[]->M∈nmS (aJ zs w) nm (aZ zs.length w t)/\∀ a∈nmS (aJ zs w) nm (aZ zs.length w t),M<=a) :
  Names zs w (aJ zs w) (fun u=>dn u\/u=t) (mrg (nmS (aJ zs w) nm (aZ zs.length w t)) M nm):=by
 generalize hS:nmS (aJ zs w) nm (aZ zs.length w t)=S at hM
 have mem:∀ m,m∈S↔∃ c∈aJ zs w,c∈aZ zs.length w t/\nm c=m:=fun m=>by rw[<- hS];exact Pz
 have some_:∀ m,m∈S->M∈S/\∀ a∈S,M<=a:=fun m hm=>hM (List.ne_nil_of_mem hm)
 refine⟨fun c hc d hd e=>?_,fun u hu c hc d hd h1 h2=>?_,fun c hc=>?_,fun i d hd=>?_⟩
 ·unfold mrg at e
  by_cases h1:nm c∈S
  ·rw[if_pos h1] at e
   by_cases h2:nm d∈S
   ·obtain⟨x,xE,xn,ex⟩:=(mem _).mp h1
    obtain⟨y,yE,yn,ey⟩:=(mem _).mp h2
    have r1:=N.snd c hc x xE ex.symm
    have r2:=N.snd y yE d hd ey
    exact(r1.trans (fU.Gn tin to xn yn (jC.mp yE).1)).trans r2
   ·rw[if_neg h2] at e
    rw[<- e] at h2
    exact absurd (some_ _ h1).1 h2
  ·rw[if_neg h1] at e
   by_cases h2:nm d∈S
   ·rw[if_pos h2] at e
    rw[e] at h1
    exact absurd (some_ _ h2).1 h1
   ·rw[if_neg h2] at e
    exact N.snd c hc d hd e
 ·unfold mrg
  rcases hu with hu|rfl
  ·rw[N.cpl u hu c hc d hd h1 h2]
  ·rw[if_pos ((mem _).mpr ⟨c,hc,h1,rfl⟩),if_pos ((mem _).mpr ⟨d,hd,h2,rfl⟩)]
 ·unfold mrg
  by_cases h1:nm c∈S
  ·rw[if_pos h1]
   have hm:=(some_ _ h1).1
   obtain⟨x,xE,xn,ex⟩:=(mem _).mp hm
   obtain⟨i,d,ei,e1,e2⟩:=N.ldr x xE
   refine⟨i,d,ei,by rw[<- ex,e1],?_⟩
   have:nm d=M:=by rw[e2,<- e1,ex]
   rw[if_pos (by rw[this];exact hm),<- ex,e1]
  ·rw[if_neg h1]
   obtain⟨i,d,ei,e1,e2⟩:=N.ldr c hc
   refine⟨i,d,ei,e1,?_⟩
   rw[if_neg (by rw[e2,<- e1];exact h1)];exact e2
 ·unfold mrg
  by_cases h1:nm d∈S
  ·rw[if_pos h1]
   exact Int.le_trans ((some_ _ h1).2 _ h1) (N.low i d hd)
  ·rw[if_neg h1];exact N.low i d hd
theorem Names.imp{zs:List Str}{w:Nat}{E:List Cell}{dn dn':Cell->Prop}{nm:Cell->Int}(N:Names zs w E dn nm)(h:∀ u,dn' u->dn u):Names zs w E dn' nm:=⟨N.snd,fun t ht=>N.cpl t (h t ht),N.ldr,N.low⟩
theorem Names.congr{zs:List Str}{w:Nat}{E:List Cell}{dn:Cell->Prop}{nm nm':Cell->Int}(N:Names zs w E dn nm)(h:∀ c∈E,nm' c=nm c):Names zs w E dn nm':=by
 refine⟨fun c hc d hd e=>N.snd c hc d hd (by rw[<- h c hc,<- h d hd];exact e),fun t ht c hc d hd h1 h2=>by rw[h c hc,h d hd];exact N.cpl t ht c hc d hd h1 h2,fun c hc=>?_,fun i d e=>by rw[h d (List.mem_of_getElem? e)];exact N.low i d e⟩
 obtain⟨i,d,e1,e2,e3⟩:=N.ldr c hc
 exact⟨i,d,e1,by rw[h c hc];exact e2,by rw[h d (List.mem_of_getElem? e1)];exact e3⟩
theorem Names.start{zs:List Str}{w:Nat}{E:List Cell}{nm:Cell->Int}(h:∀(i:Nat) (d:Cell),E[i]?=some d->nm d=i):Names zs w E (fun _=>False) nm:=by
 refine⟨fun c hc d hd e=>?_,fun t ht=>ht.elim,fun c hc=>?_,fun i d e=>by rw[h i d e];exact Int.le_refl _⟩
 ·obtain⟨i,ei⟩:=List.getElem?_of_mem hc
  obtain⟨j,ej⟩:=List.getElem?_of_mem hd
  rw[h i c ei,h j d ej] at e
  have:i=j:=by lia
  subst this
  rw[ei] at ej;cases ej
  exact .base
 ·obtain⟨i,ei⟩:=List.getElem?_of_mem hc
  exact⟨i,c,ei,h i c ei,h i c ei⟩
theorem Names.iff{zs:List Str}{w:Nat}{dn:Cell->Prop}{nm:Cell->Int}(N:Names zs w (aJ zs w) dn nm)(all:∀ t,inF zs.length w t->aX zs w t=false->dn t){c d:Cell}(hc:c∈aJ zs w)(hd:d∈aJ zs w):nm c=nm d↔fU zs w c d:=by
 refine⟨N.snd c hc d hd,fun r=>?_⟩
 clear hd
 induction r with
 |base=>rfl
 |@step x t y rx ht hy ih=>
  obtain⟨tin,yd,tx⟩:=dh ht
  have xE:=fU.edge hc rx
  rw[ih]
  refine N.cpl t (all t tin yd) x xE y (lu tin yd hy) (iI tx (gD xE)) ?_
  unfold aB at hy
  exact(List.mem_filter.mp hy).1
theorem OJ{a b:List Int}(h1:a.Pairwise (· < ·))(h2:b.Pairwise (· < ·))(hm:∀ y,y∈a↔y∈b):a=b:=by
 have nd:∀ {c:List Int},c.Pairwise (· < ·)->c.Nodup:=fun h=>h.imp fun {x y} hab e=>by subst e;lia
 have pm:a.Perm b:=(List.perm_ext_iff_of_nodup (nd h1) (nd h2)).mpr hm
 refine List.Perm.eq_of_pairwise (le:=(· < ·)) (fun x y _ _ h1 h2=>?_) h1 h2 pm
 lia
def named(E:List Cell)(nm:Cell->Int)(k:Int):List Cell:=E.filter fun c=>decide (nm c=k)
theorem vB{zs:List Str}{w:Nat}{dn:Cell->Prop}{nm:Cell->Int}{ms:List Int}(z6:zs.length<=6)(w6:w<=6)(N:Names zs w (aJ zs w) dn nm)(all:∀ t,inF zs.length w t->aX zs w t=false->dn t)
  (hm:∀ m,m∈ms↔m∈(aJ zs w).map nm) (as:ms.Pairwise (· < ·)):∀(k i:Nat),(aJ zs w).length-i=k->i<=(aJ zs w).length ->
   fB zs w ((aJ zs w).drop i) ((ms.filter fun m=>decide (m<(i:Int))).map (named (aJ zs w) nm))=ms.map (named (aJ zs w) nm)
 |0,i,hk,hi=>by
  have e:i=(aJ zs w).length:=by lia
  rw[e,List.drop_length]
  unfold fB
  rw[List.filter_eq_self.mpr fun m h=>?_]
  obtain⟨c,hc,rfl⟩:=List.mem_map.mp ((hm m).mp h)
  obtain⟨j,d,e1,e2,_⟩:=N.ldr c hc
  have:=(List.getElem?_eq_some_iff.mp e1).1
  exact decide_eq_true (by rw[e2];lia)
 |k+1,i,hk,hi=>by
  have hlt:i<(aJ zs w).length:=by lia
  have ec:(aJ zs w)[i]?=some (aJ zs w)[i]:=List.getElem?_eq_getElem hlt
  generalize hcc:(aJ zs w)[i]=c at ec
  have dr:(aJ zs w).drop i=c::(aJ zs w).drop (i+1):=by
   rw[List.drop_eq_getElem_cons hlt,hcc]
  have cE:c∈aJ zs w:=List.mem_of_getElem? ec
  have low:=N.low i c ec
  rw[dr]
  unfold fB
  have Am:∀ m,c∈named (aJ zs w) nm m↔nm c=m:=fun m=>by
   unfold named
   rw[List.mem_filter,decide_eq_true_iff]
   exact⟨fun h=>h.2,fun h=>⟨cE,h⟩⟩
  by_cases hn:nm c=(i:Int)
  ·have no:¬∃ p∈(ms.filter fun m=>decide (m<(i:Int))).map (named (aJ zs w) nm),c∈p:=by
    rintro⟨p,hp,hcp⟩
    obtain⟨m,hm',rfl⟩:=List.mem_map.mp hp
    have h1:=(Am m).mp hcp
    have h2:=of_decide_eq_true (List.mem_filter.mp hm').2
    lia
   rw[if_neg no]
   have ej:bQ zs w c=named (aJ zs w) nm i:=by
    refine Ck (jy z6 w6) ((xV z6 w6).filter _) fun y=>?_
    rw[dG (gD cE)]
    unfold named
    rw[List.mem_filter,decide_eq_true_iff,<- hn]
    constructor
    ·intro r
     have yE:=fU.edge cE r
     exact⟨yE,((N.iff all cE yE).mpr r).symm⟩
    ·rintro⟨yE,e⟩
     exact(N.iff all cE yE).mp e.symm
   have es:(ms.filter fun m=>decide (m<((i+1:Nat):Int)))=(ms.filter fun m=>decide (m<(i:Int)))++[(i:Int)]:=by
    refine OJ (as.filter _) (List.pairwise_append.mpr ⟨as.filter _,by simp,fun a ha b hb=>?_⟩) fun y=>?_
    ·rw[List.mem_singleton.mp hb]
     exact of_decide_eq_true (List.mem_filter.mp ha).2
    ·rw[List.mem_append,List.mem_singleton,List.mem_filter,List.mem_filter,decide_eq_true_iff,decide_eq_true_iff]
     constructor
     ·rintro⟨h1,h2⟩
      by_cases z:y=i
      ·exact .inr z
      ·exact .inl ⟨h1,by lia⟩
     ·rintro(⟨h1,h2⟩|rfl)
      ·exact⟨h1,by lia⟩
      ·exact⟨(hm _).mpr (List.mem_map.mpr ⟨c,cE,hn⟩),by lia⟩
   have go:=vB z6 w6 N all hm as k (i+1) (by lia) hlt
   rw[es,List.map_append] at go
   rw[ej]
   exact go
  ·have hl:nm c<(i:Int):=by lia
   have yes:∃ p∈(ms.filter fun m=>decide (m<(i:Int))).map (named (aJ zs w) nm),c∈p:=
    ⟨_,List.mem_map.mpr ⟨nm c,List.mem_filter.mpr ⟨(hm _).mpr (List.mem_map.mpr ⟨c,cE,rfl⟩),decide_eq_true hl⟩,rfl⟩,(Am _).mpr rfl⟩
   rw[if_pos yes]
   have es:(ms.filter fun m=>decide (m<((i+1:Nat):Int)))=ms.filter fun m=>decide (m<(i:Int)):=by
    refine List.filter_congr fun m hm'=>?_
    rw[decide_eq_decide]
    refine⟨fun h=>?_,fun h=>by lia⟩
    by_cases z:m=i
    ·exfalso
     obtain⟨x,xE,ex⟩:=List.mem_map.mp ((hm m).mp hm')
     obtain⟨j,d,e1,e2,e3⟩:=N.ldr x xE
     have:j=i:=by lia
     subst this
     rw[ec] at e1
     cases e1
     exact hn e3
    ·lia
   have go:=vB z6 w6 N all hm as k (i+1) (by lia) hlt
   rw[es] at go
   exact go
theorem Bb{zs:List Str}{w:Nat}{dn:Cell->Prop}{nm:Cell->Int}{ms:List Int}(v:Vw zs w)(N:Names zs w (aJ zs w) dn nm)(all:∀ t,inF zs.length w t->aX zs w t=false->dn t)
  (hm:∀ m,m∈ms↔m∈(aJ zs w).map nm) (as:ms.Pairwise (· < ·)):ms.map (named (aJ zs w) nm)=fZ zs w:=by
 have go:=vB v.le v.w6 N all hm as _ 0 rfl (Nat.zero_le _)
 rw[List.drop_zero] at go
 have e:(ms.filter fun m=>decide (m<((0:Nat):Int)))=[]:=List.filter_eq_nil_iff.mpr fun m h=>by
  obtain⟨c,hc,rfl⟩:=List.mem_map.mp ((hm m).mp h)
  obtain⟨j,d,_,e2,_⟩:=N.ldr c hc
  rw[e2]
  simp
 rw[e] at go
 exact go.symm
end My
namespace My
open PySem L2
def dN(E:List Cell)(nm:Cell->Int):List (List Key×V):=E.map fun c=>(gG c,V.int (nm c))
theorem yF(nm:Cell->Int)(c:Cell):∀ E:List Cell,nT (dN E nm) (gG c)=if c∈E then some (.int (nm c)) else none
 |[]=>rfl
 |a::E=>by
  show nT ((gG a,V.int (nm a))::dN E nm) (gG c)=_
  by_cases e:a=c
  ·subst e
   rw[mR rfl,if_pos List.mem_cons_self]
  ·rw[mQ (fun z=>e (vf z)),yF nm c E]
   by_cases m:c∈E
   ·rw[if_pos m,if_pos (List.mem_cons_of_mem _ m)]
   ·rw[if_neg m,if_neg (fun z=>(List.mem_cons.mp z).elim (fun q=>e q.symm) m)]
theorem Sh(E:List Cell)(nm:Cell->Int)(c:Cell)(nc:c∉E):putK (dN E nm) (gG c) (.int (nm c))=dN (E++[c]) nm:=by
 rw[Bc _ (by rw[yF,if_neg nc])]
 unfold dN
 rw[List.map_append];rfl
def MJ(nm:Cell->Int)(c:Cell)(m:Int):Cell->Int:=fun d=>if d=c then m else nm d
theorem Sq(E:List Cell)(nm:Cell->Int)(c:Cell)(m:Int)(hc:c∈E):putK (dN E nm) (gG c) (.int m)=dN E (MJ nm c m):=by
 unfold putK
 have h1:((dN E nm).any fun kv=>decide (kv.1=gG c))=true:=by
  rw[qe,yF,if_pos hc];rfl
 rw[if_pos h1]
 unfold dN
 rw[List.map_map]
 refine List.map_congr_left fun a _=>?_
 show(if gG a=gG c then(gG a,V.int m) else(gG a,V.int (nm a)))=(gG a,V.int (MJ nm c m a))
 unfold MJ
 by_cases e:a=c
 ·subst e;rw[if_pos rfl,if_pos rfl]
 ·rw[if_neg (fun z=>e (vf z)),if_neg e]
theorem Sg(E:List Cell)(nm:Cell->Int):(dN E nm).length=E.length:=List.length_map _
section
variable{K:PySem.W.Frag}{H:Hp}{dd:Addr}{v:V}{c:Cell}{E:List Cell}{nm:Cell->Int}
theorem Gy(ed:H dd=some (.dT (dN E nm)))(d:Den K H v (ao c)):sY H dd v (if c∈E then some (.int (nm c)) else none):=by
 obtain⟨t,rfl,_,ht⟩:=dD d
 have key:H t=some (.tup ((gG c).map kV)):=ht
 rw[<- yF]
 exact sY.t ed key
theorem u9(ed:H dd=some (.dT (dN E nm)))(d:Den K H v (ao c))(hc:c∈E):sY H dd v (some (.int (nm c))):=by
 have:=Gy ed d
 rwa[if_pos hc] at this
theorem Gz{m:Int}(ed:H dd=some (.dT (dN E nm)))(d:Den K H v (ao c))(hz:E.length<1000):BZ H dd v (.int m) (upd H dd (.dT (putK (dN E nm) (gG c) (.int m)))):=by
 obtain⟨t,rfl,_,ht⟩:=dD d
 have key:H t=some (.tup ((gG c).map kV)):=ht
 exact BZ.t ed key (ltl (by rw[Sg];lia))
theorem Ov(a b:Int):eqD (Dt.int a) (Dt.int b)=decide (a=b):=by rw[lV rfl rfl];exact(Bool.beq_eq_decide_eq _ _)
theorem Ez(x:Int):∀ ns:List Int,((ns.map Dt.int).any fun e=>eqD e (Dt.int x))=decide (x∈ns)
 |[]=>by simp
 |a::ns=>by
  rw[List.map_cons,List.any_cons,Ov,Ez x ns]
  by_cases h:a=x
  ·rw[decide_eq_true h,Bool.true_or,decide_eq_true (by rw[h];exact List.mem_cons_self)]
  ·rw[decide_eq_false h,Bool.false_or,decide_eq_decide,List.mem_cons]
   exact⟨.inr,fun z=>z.elim (fun e=>absurd e.symm h) id⟩
theorem V7{p:Addr}{ns:List Int}{x:Int}{Q:VK}(h:H p=some (.lst (ns.map V.int)))(q:Q (.bl (decide (x∈ns))) H):DW K false (.int x) (.ref p) H Q:=by
 refine⟨Dt.int x,ns.map Dt.int,p,rfl,.int x,.inl (.lst (SqL.of h) (aN.ints ns)),fun e he=>?_,?_⟩
 ·obtain⟨c,_,rfl⟩:=List.mem_map.mp he
  exact⟨rfl,Nat.le_of_ble_eq_true rfl⟩
 ·show Q (.bl ((ns.map Dt.int).any fun e=>eqD e (Dt.int x))) H
  rw[Ez];exact q
end
structure PSt(K:PySem.W.Frag)(H0 H:Hp)(vg dd:Addr)(cs:List V)(E ks:List Cell)(nm:Cell->Int):Prop where
 same:Same H0 H
 ev:H vg=some (.lst cs)
 Dc:aN K H cs (E.map ao)
 ed:H dd=some (.dT (dN ks nm))
 nd:H0 dd=none
theorem PSt.mono{K:PySem.W.Frag}{H0 H H':Hp}{vg dd:Addr}{cs:List V}{E ks:List Cell}{nm:Cell->Int}(p:PSt K H0 H vg dd cs E ks nm)(s:Same H H'):PSt K H0 H' vg dd cs E ks nm:=⟨p.same.trans s,s _ _ p.ev,p.Dc.mono s,s _ _ p.ed,p.nd⟩
theorem PSt.put{K:PySem.W.Frag}{H0 H:Hp}{vg dd:Addr}{cs:List V}{E ks ks':List Cell}{nm nm':Cell->Int}(p:PSt K H0 H vg dd cs E ks nm):PSt K H0 (upd H dd (.dT (dN ks' nm'))) vg dd cs E ks' nm':=by
 have sd:SameBut dd H (upd H dd (.dT (dN ks' nm'))):=(SameBut.refl dd _).put
 have tp:yp H (upd H dd (.dT (dN ks' nm'))):=.put p.ed (by intro xs z;cases z)
 exact⟨sd.of p.same p.nd,sd _ _ p.ev (pH p.ev p.ed (by intro z;cases z)),tp.cells p.Dc,aA,p.nd⟩
theorem PSt.Xy{K:PySem.W.Frag}{H0 H:Hp}{vg dd q:Addr}{cs l0 l1:List V}{E ks:List Cell}{nm:Cell->Int}(p:PSt K H0 H vg dd cs E ks nm)(e:H q=some (.lst l0))(nq:H0 q=none)(n1:vg≠q)(n2:dd≠q):PSt K H0 (upd H q (.lst l1)) vg dd cs E ks nm:=by
 have sb:SameBut q H (upd H q (.lst l1)):=(SameBut.refl q _).put
 exact⟨sb.of p.same nq,sb _ _ p.ev n1,sb.cells e p.Dc,sb _ _ p.ed n2,p.nd⟩
theorem PSt.Rp{K:PySem.W.Frag}{H0 H:Hp}{vg dd l:Addr}{cs:List V}{E ks ks':List Cell}{nm nm':Cell->Int}{xs:List V}(p:PSt K H0 H vg dd cs E ks nm)(h:H l=some (.lst xs)):(upd H dd (.dT (dN ks' nm'))) l=some (.lst xs):=by
 rw[aO (pH h p.ed (by intro z;cases z))];exact h
theorem PSt.Wb{K:PySem.W.Frag}{H0 H:Hp}{vg dd:Addr}{cs ts:List V}{E ks ks' F:List Cell}{nm nm':Cell->Int}(p:PSt K H0 H vg dd cs E ks nm)(D:aN K H ts (F.map ao)):aN K (upd H dd (.dT (dN ks' nm'))) ts (F.map ao):=(yp.put p.ed (by intro xs z;cases z)).cells D
theorem qO{c:Cell}:∀ {E:List Cell} {i:Nat},E.Nodup->E[i]?=some c->E.idxOf c=i
 |[],i,_,h=>by cases h
 |a::E,0,nd,h=>by
  cases h
  simp
 |a::E,i+1,nd,h=>by
  obtain⟨n1,n2⟩:=List.nodup_cons.mp nd
  have h:E[i]?=some c:=by simpa using h
  have ne:a≠c:=fun z=>n1 (by rw[z];exact List.mem_of_getElem? h)
  have hb:(a==c)=false:=beq_eq_false_iff_ne.mpr ne
  rw[List.idxOf_cons,qO n2 h,hb];rfl
theorem Ak:∀ S:List Int,∃ M,S≠[]->M∈S/\∀ a∈S,M<=a
 |[]=>⟨0,fun h=>absurd rfl h⟩
 |x::S=>by
  obtain⟨M,hM⟩:=Ak S
  by_cases e:S=[]
  ·subst e
   exact⟨x,fun _=>⟨List.mem_cons_self,fun a ha=>by rw[List.mem_singleton.mp ha];exact Int.le_refl _⟩⟩
  ·obtain⟨h1,h2⟩:=hM e
   by_cases hx:x<=M
   ·refine⟨x,fun _=>⟨List.mem_cons_self,fun a ha=>?_⟩⟩
    rcases List.mem_cons.mp ha with z|z
    ·rw[z];exact Int.le_refl _
    ·exact Int.le_trans hx (h2 a z)
   ·refine⟨M,fun _=>⟨List.mem_cons_of_mem _ h1,fun a ha=>?_⟩⟩
    rcases List.mem_cons.mp ha with z|z
    ·rw[z];lia
    ·exact h2 a z
def Bv(K:PySem.W.Frag):Sp:=fun vs H Q _=>∃(p:Addr)(zs:List Str)(w:Nat),vs=[.ref p]/\SqL K H p (zs.map V.str)/\Vw zs w /\
 ∀(q:Addr)(qs:List Addr)(H':Hp),H q=none->Same H H'->lH K H H' q qs (fZ zs w)->Q (.ref q) H'
section
variable{P:Program}{w:World}{K:PySem.W.Frag}{mg:Str->Option Value}{base:Heap}{Z:Adr}
theorem Iv{f:Addr}{fd:FuncData} (F:Fun K "_law_parts" "_law_parts" kI f fd) (T:Txt K mg Z) (bN:Df P w K mg base 1 "_law_sizes" ["rows"] (qd K)) (gb:Df P w K mg base 2 "_law_edge" ["rows"] (En K)) (cJ:Df P w K mg base 1 "_law_cells" ["rows","signs"] (uf K)) (bH:Df P w K mg base 1 "_law_near" ["height","width","cell"] (rJ K)) :
  cu P w K mg base (CXE P w) 3 f fd ["rows"] (Bv K):=by
 refine F.rok bI (fun vs H Q E h=>?_) (fun cdv A outer s H vs Q E hr h=>?_)
 ·obtain⟨p,zs,w,rfl,_⟩:=h;rfl
 ·obtain⟨p,zs,wd,rfl,hS,vw,hq⟩:=h
  have hu:=oG hr
  have hu':=tE hr
  have z6:=vw.le
  have w6:=vw.w6
  refine⟨_,(au (kh (aV bN hr rfl aU (aj (rv 0) ak)) (jY rfl (bT (aR (i:=1) bI.nd rfl (by first|exact Or.inl rfl|exact Or.inr rfl)) (bT (aR (i:=2) bI.nd rfl (by first|exact Or.inl rfl|exact Or.inr rfl)) iG)))) (au (aL (i:=3) bI.nd rfl (by first|exact Or.inl rfl|exact Or.inr rfl) (aV gb hr rfl aU (aj (rv 0) ak))) (au (aL (i:=4) bI.nd rfl (by first|exact Or.inl rfl|exact Or.inr rfl) QK) (au (bW PassesOwn.never rfl (Aj (K:=K) rfl T.lM (aj (rv 3) ak)) (jY rfl (bT (aR (i:=5) bI.nd rfl (by first|exact Or.inl rfl|exact Or.inr rfl)) (bT (aR (i:=6) bI.nd rfl (by first|exact Or.inl rfl|exact Or.inr rfl)) iG))) (aC (kh (rv 5) (z9 (rv 4) (rv 6) (set_dict hu))))) (au (bW PassesOwn.never rfl (aQ (K:=K) (aV cJ hr rfl aU (aj (rv 0) (aj gU ak)))) (aR (i:=7) bI.nd rfl (by first|exact Or.inl rfl|exact Or.inr rfl)) (au (kj (i:=8) bI.nd rfl rfl (by rfl) rfl (aQ (K:=K) (aV bH hr rfl aU (aj (rv 1) (aj (rv 2) (aj (rv 7) ak))))) (fun _ _ _=>(cL (bD (IK hu) (rv 0) (rv 5) (by rfl)))) (fun _ _ _=>(bR (tU hu) (rv 5) (rv 0)))) (aC (bW PassesOwn.never rfl (aQ (K:=K) (rv 3)) (aR (i:=6) bI.nd rfl (by first|exact Or.inl rfl|exact Or.inr rfl)) (aC (dM (bD (eV.or (nY (K:=K) hu')) (bR (tU hu) (rv 4) (rv 6)) (rv 8) (by rfl)) (aC (kh (aK (W9 (K:=K) rfl) rfl T.Fg Cv (aj (rv 8) ak)) (z9 (rv 4) (rv 6) (set_dict hu)))) bU)))))) (au (aL (i:=9) bI.nd rfl (by first|exact Or.inl rfl|exact Or.inr rfl) (cQ ak)) (au (bW PassesOwn.never rfl (aQ (K:=K) (aK (Pb (w:=w) rfl hu) rfl T.lN mV (aj (iZ (Wa (K:=K) (w:=w) rfl) rfl T.Ri S6 (aj (dW (by rfl) rfl (aQ (K:=K) (rv 3)) (fun _ _ _=>jZ) (fun _ _ _=>(bR (tU hu) (rv 5) (rv 0)))) ak)) ak))) (aR (i:=5) bI.nd rfl (by first|exact Or.inl rfl|exact Or.inr rfl)) (aC (fP (jA (K:=K) PySem.F.plainAttrs_list PySem.F.slot_list_append PySem.F.type_list_append cO (rv 9) (aj (dW (by rfl) rfl (aQ (K:=K) (rv 3)) (fun _ _ _=>(cL (bD (sI.or (rW (K:=K) hu)) (bR (tU hu) (rv 5) (rv 0)) (rv 6) (cC _)))) (fun _ _ _=>(rv 0))) ak))))) (aC (bC (rv 9)))))))))),?_⟩
  refine aD (fun σ H1=>Same H H1/\σ=[some (.ref p),some (.int zs.length),some (.int wd),none,none,none,none,none,none,none]) (fun R hR=>?_) ?_
  ·exact⟨_,rfl,p,zs,wd,rfl,hS,vw.toRect,fun t H' s' hT=>⟨t,_,rfl,hT,rfl,_,_,rfl,_,_,rfl,rfl,hR _ _ ⟨s',rfl⟩⟩⟩
  rintro σ H1 ⟨s1,rfl⟩
  refine aD (fun σ H2=>∃(vg:Addr)(cs:List V),Same H H2/\H2 vg=some (.lst cs)/\aN K H2 cs ((aJ zs wd).map ao)/\σ=[some (.ref p),some (.int zs.length),some (.int wd),some (.ref vg),none,none,none,none,none,none]) (fun R hR=>?_) ?_
  ·refine⟨_,rfl,p,zs,wd,rfl,s1.seq hS,vw,fun q H' fr=>?_⟩
   obtain⟨cs,ec,Dc⟩:=fr.ls
   rw[K8] at Dc
   exact hR _ _ ⟨q,cs,s1.trans fr.same,ec,Dc,rfl⟩
  rintro σ H2 ⟨vg,cs,s2,ev2,Dc2,rfl⟩
  generalize hE:aJ zs wd=E at Dc2
  have XD:E.Pairwise bF:=by rw[<- hE];exact xV z6 w6
  have eNd:E.Nodup:=iH XD
  have lE:E.length<=36:=by
   rw[<- hE];exact Nat.le_trans (List.length_filter_le _ _) (lO vw)
  have lcs:cs.length=E.length:=by rw[Dc2.length,List.length_map]
  refine aD (fun σ H3=>∃ dd:Addr,PSt K H H3 vg dd cs E [] (fun _=>0)/\σ=[some (.ref p),some (.int zs.length),some (.int wd),some (.ref vg),some (.ref dd),none,none,none,none,none]) (fun R hR=>?_) ?_
  ·exact fun dd nd=>hR _ _ ⟨dd,⟨s2.and nd,(Same.put nd) _ _ ev2,Dc2.mono (Same.put nd),aA,s2.free nd⟩,rfl⟩
  rintro σ H3 ⟨dd,ps3,rfl⟩
  refine aD (fun σ H4=>∃(v5 v6:Option V),PSt K H H4 vg dd cs E E (fun c=>(E.idxOf c:Int))/\σ=[some (.ref p),some (.int zs.length),some (.int wd),some (.ref vg),some (.ref dd),v5,v6,none,none,none]) (fun R hR=>?_) ?_
  ·refine⟨_,rfl,vg,rfl,⟨_,SqL.of ps3.ev⟩,?_⟩
   refine Ae (K:=K) (xs:=cs) (fun i σ H4=>∃(v5 v6:Option V),PSt K H H4 vg dd cs E (E.take i) (fun c=>(E.idxOf c:Int))/\σ=[some (.ref p),some (.int zs.length),some (.int wd),some (.ref vg),some (.ref dd),v5,v6,none,none,none])
    ⟨none,none,⟨ps3.same,ps3.ev,ps3.Dc,ps3.ed,ps3.nd⟩,rfl⟩ (fun i σ H4 _ hh=>by obtain⟨_,_,a,_⟩:=hh;exact SqL.of a.ev) (fun i u σ H4 t hu4 hh nt=>?_) (fun σ H4 hh=>?_)
   ·obtain⟨v5,v6,p4,rfl⟩:=hh
    have p5:=p4.mono (Same.put (o:=.tup [.int i,u]) nt)
    obtain⟨dc,edc,du⟩:=p5.Dc.get hu4
    rw[List.getElem?_map] at edc
    obtain⟨c,ecq,rfl⟩:=Option.map_eq_some_iff.mp edc
    have ix:=qO eNd ecq
    have hi:i<E.length:=(List.getElem?_eq_some_iff.mp ecq).1
    have nc:c∉E.take i:=fun z=>by
     obtain⟨j,hj⟩:=List.getElem?_of_mem z
     have hj':j<i:=by have:=(List.getElem?_eq_some_iff.mp hj).1;rw[List.length_take] at this;lia
     rw[List.getElem?_take_of_lt hj'] at hj
     have:=qO eNd hj
     lia
    refine⟨t,_,rfl,SqT.of aA,rfl,_,_,rfl,_,_,rfl,rfl,?_⟩
    refine⟨_,rfl,_,rfl,_,rfl,dd,_,rfl,Gz p5.ed du (by rw[List.length_take];lia),?_⟩
    have e1:putK (dN (E.take i) fun c=>(E.idxOf c:Int)) (gG c) (.int i)=dN (E.take (i+1)) fun c=>(E.idxOf c:Int):=by
     have:=Sh (E.take i) (fun c=>(E.idxOf c:Int)) c nc
     rw[ix] at this
     rw[this,List.take_succ,ecq];rfl
    rw[e1]
    exact⟨_,_,p5.put,rfl⟩
   ·obtain⟨v5,v6,p4,rfl⟩:=hh
    rw[lcs,List.take_length] at p4
    exact hR _ _ ⟨v5,v6,p4,rfl⟩
  rintro σ H4 ⟨v5,v6,p4,rfl⟩
  have N0:Names zs wd E (fun _=>False) (fun c=>(E.idxOf c:Int)):=Names.start fun i d e=>by
   show((E.idxOf d:Nat):Int)=i
   rw[qO eNd e]
  refine aD (fun σ H5=>∃(nm:Cell->Int)(v5 v6 v7 v8:Option V),PSt K H H5 vg dd cs E E nm/\Names zs wd E (fun t=>t∈bx zs wd "012345678") nm/\σ=[some (.ref p),some (.int zs.length),some (.int wd),some (.ref vg),some (.ref dd),v5,v6,v7,v8,none]) (fun R hR=>?_) ?_
  ·refine⟨_,rfl,p,zs,wd,"012345678",rfl,p4.same.seq hS,vw.toRect,fun ol H5 fr=>?_⟩
   obtain⟨ts,et,Dt'⟩:=fr.ls
   have lts:ts.length=(bx zs wd "012345678").length:=by rw[Dt'.length,List.length_map]
   refine⟨ol,rfl,⟨_,SqL.of et⟩,?_⟩
   refine cX (K:=K) (xs:=ts) (fun i σ H6=>∃(nm:Cell->Int)(v5 v6 v7 v8:Option V),PSt K H H6 vg dd cs E E nm/\H6 ol=some (.lst ts)/\aN K H6 ts ((bx zs wd "012345678").map ao)/\Names zs wd E (fun t=>t∈(bx zs wd "012345678").take i) nm/\σ=[some (.ref p),some (.int zs.length),some (.int wd),some (.ref vg),some (.ref dd),v5,v6,v7,v8,none])
    ⟨_,v5,v6,none,none,p4.mono fr.same,et,Dt',N0.imp (fun u hu=>by cases hu),rfl⟩ (fun i σ H6 _ hh=>by obtain⟨_,_,_,_,_,_,e,_⟩:=hh;exact SqL.of e) (fun i u σ H6 hu6 hh=>?_) (fun σ H6 hh=>?_)
   ·obtain⟨nm,v5,v6,v7,v8,p6,et6,Dt6,N6,rfl⟩:=hh
    obtain⟨dt,edt,du6⟩:=Dt6.get hu6
    rw[List.getElem?_map] at edt
    obtain⟨t,etq,rfl⟩:=Option.map_eq_some_iff.mp edt
    obtain⟨tin,to⟩:=(iV vw).mp (List.mem_of_getElem? etq)
    obtain⟨M,hM⟩:=Ak (nmS E nm (aZ zs.length wd t))
    refine aD (fun σ H7=>∃ sl:Addr,PSt K H H7 vg dd cs E E nm/\H7 ol=some (.lst ts)/\aN K H7 ts ((bx zs wd "012345678").map ao)/\H7 sl=some (.lst ((nmS E nm (aZ zs.length wd t)).map V.int))/\σ=[some (.ref p),some (.int zs.length),some (.int wd),some (.ref vg),some (.ref dd),v5,v6,some u,some (.ref sl),none]) (fun R' hR'=>?_) ?_
    ·refine⟨_,rfl,_,rfl,_,rfl,zs.length,wd,u,t,rfl,du6,fun nl H7 fr7=>?_⟩
     obtain⟨ns,en,Dn⟩:=fr7.ls
     have p7:=p6.mono fr7.same
     have n8:=cT zs.length wd t
     refine⟨nl,rfl,⟨_,SqL.of en⟩,?_⟩
     refine bY (K:=K) (xs:=aZ zs.length wd t) (enc:=ao) (bf (SqL.of en)) Dn (small (by lia)) (fun c=>decide (c∈E)) (fun c=>Dt.int (nm c)) (fun c hc v H' s' d G hG=>?_) (fun c hc pc v H' s' d G hG=>?_) (fun ys H' s' D pl hpl=>?_)
     ·refine⟨_,rfl,_,rfl,dd,_,rfl,Gy (p7.mono s').ed d,_,rfl,?_⟩
      have:=hG H' (Same.refl _)
      by_cases h:c∈E
      ·rw[if_pos h];rw[decide_eq_true h] at this;exact this
      ·rw[if_neg h];rw[decide_eq_false h] at this;exact this
     ·exact⟨_,rfl,_,rfl,dd,_,rfl,u9 (p7.mono s').ed d (of_decide_eq_true pc),hG _ _ (Same.refl _) (.int _)⟩
     ·have e:ys=(nmS E nm (aZ zs.length wd t)).map V.int:=by
       refine aN.yU (K:=K) (H:=H') ?_
       unfold nmS
       rw[List.map_map];exact D
      have sp:=s'.and (o:=.lst ys) hpl
      refine hR' _ _ ⟨pl,p7.mono sp,sp _ _ (fr7.same _ _ et6),(Dt6.mono fr7.same).mono sp,by rw[aA,e],rfl⟩
    rintro σ H7 ⟨sl,p7,et7,Dt7,es7,rfl⟩
    refine⟨_,rfl,vg,rfl,⟨_,SqL.of p7.ev⟩,?_⟩
    refine cX (K:=K) (xs:=cs) (fun j σ H8=>∃(nj:Cell->Int)(v6:Option V),PSt K H H8 vg dd cs E E nj/\H8 ol=some (.lst ts)/\aN K H8 ts ((bx zs wd "012345678").map ao)/\H8 sl=some (.lst ((nmS E nm (aZ zs.length wd t)).map V.int))/\(∀ c∈E,nj c=if c∈E.take j then mrg (nmS E nm (aZ zs.length wd t)) M nm c else nm c)/\σ=[some (.ref p),some (.int zs.length),some (.int wd),some (.ref vg),some (.ref dd),v5,v6,some u,some (.ref sl),none])
     ⟨nm,v6,p7,et7,Dt7,es7,fun c hc=>by rw[List.take_zero,if_neg (by intro z;cases z)],rfl⟩ (fun j σ H8 _ hh=>by obtain⟨_,_,a,_⟩:=hh;exact SqL.of a.ev) (fun j o σ H8 ho hh=>?_) (fun σ H8 hh=>?_)
    ·obtain⟨nj,v6,p8,et8,Dt8,es8,hj,rfl⟩:=hh
     obtain⟨dc,edc,do8⟩:=p8.Dc.get ho
     rw[List.getElem?_map] at edc
     obtain⟨c,ecq,rfl⟩:=Option.map_eq_some_iff.mp edc
     have cE:c∈E:=List.mem_of_getElem? ecq
     have nc:c∉E.take j:=fun z=>by
      obtain⟨k,hk⟩:=List.getElem?_of_mem z
      have hk':k<j:=by have:=(List.getElem?_eq_some_iff.mp hk).1;rw[List.length_take] at this;lia
      rw[List.getElem?_take_of_lt hk'] at hk
      have h1:=qO eNd hk
      have h2:=qO eNd ecq
      lia
     have ec:nj c=nm c:=by rw[hj c cE,if_neg nc]
     have tk:∀ d,d∈E.take (j+1)↔(d∈E.take j\/d=c):=fun d=>by
      rw[List.take_succ,ecq,List.mem_append];simp
     refine⟨_,rfl,_,rfl,dd,_,rfl,u9 p8.ed do8 cE,_,rfl,.inr (V7 es8 ⟨_,rfl,?_⟩)⟩
     refine fj (fun h=>?_) (fun h=>?_)
     ·have h:=of_decide_eq_true h
      rw[ec] at h
      have hne:=List.ne_nil_of_mem h
      refine⟨_,rfl,sl,_,rfl,SqL.of es8,hne,fun m hm hle=>?_⟩
      have em:m=M:=by
       have h1:=hle M (hM hne).1
       have h2:=(hM hne).2 m hm
       lia
      subst em
      refine⟨_,rfl,_,rfl,dd,_,rfl,Gz p8.ed do8 (by lia),?_⟩
      rw[Sq E nj c m cE]
      refine⟨MJ nj c m,_,p8.put,p8.Rp et8,p8.Wb Dt8,p8.Rp es8,fun d hd=>?_,rfl⟩
      unfold MJ
      by_cases z:d=c
      ·subst z
       rw[if_pos rfl,if_pos ((tk d).mpr (.inr rfl))]
       unfold mrg
       rw[if_pos h]
      ·rw[if_neg z,hj d hd]
       by_cases y:d∈E.take j
       ·rw[if_pos y,if_pos ((tk d).mpr (.inl y))]
       ·rw[if_neg y,if_neg (fun q=>((tk d).mp q).elim y z)]
     ·have h:=of_decide_eq_false h
      rw[ec] at h
      refine⟨nj,_,p8,et8,Dt8,es8,fun d hd=>?_,rfl⟩
      rw[hj d hd]
      by_cases y:d∈E.take j
      ·rw[if_pos y,if_pos ((tk d).mpr (.inl y))]
      ·rw[if_neg y]
       by_cases z:d=c
       ·subst z
        rw[if_pos ((tk d).mpr (.inr rfl))]
        unfold mrg
        rw[if_neg h]
       ·rw[if_neg (fun q=>((tk d).mp q).elim y z)]
    ·obtain⟨nj,v6,p8,et8,Dt8,es8,hj,rfl⟩:=hh
     rw[lcs,List.take_length] at hj
     have N8:=Names.step (M:=M) (t:=t) (by rw[hE];exact N6) tin to (by rw[hE];exact hM)
     rw[hE] at N8
     refine⟨nj,v5,v6,_,_,p8,et8,Dt8,(N8.congr fun c hc=>?_).imp (fun z hz=>?_),rfl⟩
     ·rw[hj c hc,if_pos hc]
     ·rw[List.take_succ,etq] at hz
      rcases List.mem_append.mp hz with q|q
      ·exact .inl q
      ·exact .inr (List.mem_singleton.mp q)
   ·obtain⟨nm,v5,v6,v7,v8,p6,et6,Dt6,N6,rfl⟩:=hh
    rw[lts,List.take_length] at N6
    exact hR _ _ ⟨nm,v5,v6,v7,v8,p6,N6,rfl⟩
  rintro σ H5 ⟨nm,v5,v6,v7,v8,p5,N5,rfl⟩
  refine aD (fun σ H6=>∃ q:Addr,H5 q=none/\PSt K H H6 vg dd cs E E nm/\H6 q=some (.lst [])/\σ=[some (.ref p),some (.int zs.length),some (.int wd),some (.ref vg),some (.ref dd),v5,v6,v7,v8,some (.ref q)]) (fun R hR=>?_) ?_
  ·exact⟨by decide,fun q nq=>hR _ _ ⟨q,nq,p5.mono (Same.put nq),aA,rfl⟩⟩
  rintro σ H6 ⟨q,nq5,p6,eq6,rfl⟩
  have nq:H q=none:=p5.same.free nq5
  have nqv:vg≠q:=bG p5.ev nq5
  have nqd:dd≠q:=bG p5.ed nq5
  refine aD (fun σ H7=>∃(qs:List Addr)(v5:Option V),Same H H7/\lH K H H7 q qs (fZ zs wd)/\σ=[some (.ref p),some (.int zs.length),some (.int wd),some (.ref vg),some (.ref dd),v5,v6,v7,v8,some (.ref q)]) (fun R hR=>?_) ?_
  ·refine⟨_,rfl,vg,rfl,⟨_,SqL.of p6.ev⟩,?_⟩
   refine comp_map (K:=K) (xs:=E) (enc:=ao) (bf (SqL.of p6.ev)) p6.Dc (small (by lia)) (fun c=>Dt.int (nm c)) (fun c hc v H' s' d G hG=>?_) (fun ys H' s' D pl hpl=>?_)
   ·exact⟨_,rfl,_,rfl,dd,_,rfl,u9 (p6.mono s').ed d hc,hG _ _ (Same.refl _) (.int _)⟩
   ·have e:ys=(E.map nm).map V.int:=by
     refine aN.yU (K:=K) (H:=H') ?_
     rw[List.map_map];exact D
    subst e
    refine⟨pl,_,rfl,SqL.of aA,by rw[List.length_map];lia,fun a na=>⟨a,_,rfl,aA,by rw[List.length_map];lia,fun l ms nl hm as=>⟨l,rfl,⟨_,SqL.of aA⟩,?_⟩⟩⟩
    have s8:=((s'.and (o:=.lst ((E.map nm).map V.int)) hpl).and (o:=Ej w a (E.map nm)) na).and (o:=.lst (ms.map V.int)) nl
    have p8:=p6.mono s8
    have el:=aA (H:=(upd (upd H' pl (.lst ((E.map nm).map V.int))) a (Ej w a (E.map nm)))) (a:=l) (o:=.lst (ms.map V.int))
    have eq8:=s8 _ _ eq6
    have nlq:l≠q:=fun z=>by
     have:H6 l=none:=((s'.and (o:=.lst ((E.map nm).map V.int)) hpl).and (o:=Ej w a (E.map nm)) na).free nl
     rw[z,eq6] at this;cases this
    generalize (upd (upd (upd H' pl (.lst ((E.map nm).map V.int))) a (Ej w a (E.map nm))) l (.lst (ms.map V.int)))=H8 at s8 p8 el eq8
    have Wh:ms.Nodup:=as.imp fun {x y} hab e=>by subst e;lia
    have l36:ms.length<=36:=by
     have:=iW (l2:=E.map nm) Wh fun y hy=>(hm y).mp hy
     rw[List.length_map] at this;lia
    have fin:ms.map (named E nm)=fZ zs wd:=by
     have:=Bb (ms:=ms) vw (by rw[hE];exact N5) (fun t h1 h2=>(iV vw).mpr ⟨h1,h2⟩) (by rw[hE];exact hm) as
     rwa[hE] at this
    have lms:(ms.map V.int).length=ms.length:=List.length_map _
    refine cX (K:=K) (xs:=ms.map V.int) (fun i σ H9=>∃(qs:List Addr)(v5:Option V),PSt K H H9 vg dd cs E E nm/\H9 l=some (.lst (ms.map V.int))/\lH K H H9 q qs ((ms.take i).map (named E nm))/\σ=[some (.ref p),some (.int zs.length),some (.int wd),some (.ref vg),some (.ref dd),v5,v6,v7,v8,some (.ref q)])
     ⟨[],v5,p8,el,⟨eq8,rfl,fun i a p h=>(by cases h),fun a ha=>(by cases ha),List.nodup_nil,fun z=>(by cases z)⟩,rfl⟩ (fun i σ H9 _ hh=>by obtain⟨_,_,_,e,_⟩:=hh;exact SqL.of e) (fun i u σ H9 hu9 hh=>?_) (fun σ H9 hh=>?_)
    ·obtain⟨qs,v5,p9,el9,pa,rfl⟩:=hh
     rw[List.getElem?_map] at hu9
     obtain⟨m,em,rfl⟩:=Option.map_eq_some_iff.mp hu9
     have hi:i<ms.length:=(List.getElem?_eq_some_iff.mp em).1
     have lqs:qs.length<=36:=by rw[pa.len,List.length_map,List.length_take];lia
     refine⟨_,rfl,.inl ⟨rfl,_,SqL.of pa.at_⟩,_,rfl,vg,rfl,⟨_,SqL.of p9.ev⟩,?_⟩
     refine bY (K:=K) (xs:=E) (enc:=ao) (bf (SqL.of p9.ev)) p9.Dc (small (by lia)) (fun c=>decide (nm c=m)) ao (fun c hc v H' s' d G hG=>?_) (fun c hc pc v H' s' d G hG=>?_) (fun ys H' s' D pl hpl=>?_)
     ·refine⟨_,rfl,_,rfl,dd,_,rfl,u9 (p9.mono s').ed d hc,_,rfl,.inl ⟨rfl,_,rfl,?_⟩⟩
      have e:decide (V.int (nm c)=V.int m)=decide (nm c=m):=by rw[decide_eq_decide];exact⟨fun z=>by cases z;rfl,fun z=>by rw[z]⟩
      rw[e]
      exact hG H' (Same.refl _)
     ·exact⟨_,rfl,hG _ _ (Same.refl _) d⟩
     ·have sp:=s'.and (o:=.lst ys) hpl
      have pa2:=pa.mono sp
      have p10:=p9.mono sp
      have npl:H pl=none:=(p9.same.trans s').free hpl
      have Yj:pl≠q:=fun z=>by have:=s'.free hpl;rw[z,pa.at_] at this;cases this
      have Yk:pl∉qs:=fun z=>by
       obtain⟨j,hj⟩:=List.getElem?_of_mem z
       have hj':j<((ms.take i).map (named E nm)).length:=by rw[<- pa.len];exact(List.getElem?_eq_some_iff.mp hj).1
       obtain⟨_,e,_⟩:=pa.ls j pl _ hj (List.getElem?_eq_getElem hj')
       have:=s'.free hpl
       rw[e] at this;cases this
      refine⟨q,_,_,rfl,rfl,pa2.at_,ltl (by rw[List.length_map];lia),?_⟩
      have ln:Ls K (upd H' pl (.lst ys)) pl ((named E nm m).map ao):=.new hpl D
      have pa3:=pa2.snoc ln npl Yk Yj
      have tk:(ms.take (i+1)).map (named E nm)=(ms.take i).map (named E nm)++[named E nm m]:=by rw[List.take_succ,em,List.map_append];rfl
      refine⟨qs++[pl],_,p10.Xy pa2.at_ nq nqv nqd,?_,by rw[tk];exact pa3,rfl⟩
      rw[aO nlq];exact sp _ _ el9
    ·obtain⟨qs,v5,p9,el9,pa,rfl⟩:=hh
     rw[lms,List.take_length,fin] at pa
     exact hR _ _ ⟨qs,v5,p9.same,pa,rfl⟩
  rintro σ H7 ⟨qs,v5',s7,pa,rfl⟩
  exact⟨_,rfl,hq q qs _ nq s7 pa⟩
end
end My
namespace My
open PySem L2
def layAt(p:Nat->List Cell->Bool)(ps:List Cell):Nat->List (List Cell)
 |0=>[[]]
 |k+1=>(layAt p ps k++(layAt p ps k).map (·++[ps.getD k (0,0)])).filter (p k)
def upto(ps:List Cell)(k:Nat)(l:List Cell):List Cell:=l.filter fun y=>decide (y∈ps.take k)
theorem BP{ps l:List Cell}{k:Nat}(h:∀ y∈l,y∈ps.take k):upto ps k l=l:=by
 unfold upto
 exact List.filter_eq_self.mpr fun y hy=>decide_eq_true (h y hy)
theorem getD_at{ps:List Cell}{k:Nat}(hk:k<ps.length):ps.getD k (0,0)=ps[k]:=by
 rw[List.getD_eq_getElem?_getD,List.getElem?_eq_getElem hk];rfl
theorem gO{ps:List Cell}{k:Nat}(hk:k<ps.length):ps.take (k+1)=ps.take k++[ps.getD k (0,0)]:=by
 rw[List.take_succ,List.getElem?_eq_getElem hk,getD_at hk];rfl
theorem rZ{ps:List Cell}(nd:ps.Nodup){k:Nat}(hk:k<ps.length):ps.getD k (0,0)∉ps.take k:=by
 intro h
 have h2:(ps.take k++[ps.getD k (0,0)]).Nodup:=by rw[<- gO hk];exact nd.sublist (List.take_sublist _ _)
 exact(List.nodup_append.mp h2).2.2 _ h _ (List.mem_singleton.mpr rfl) rfl
theorem Jq{ps:List Cell}{i j:Nat}(h:i<=j){y:Cell}(hy:y∈ps.take i):y∈ps.take j:=by
 have e:ps.take i=(ps.take j).take i:=by rw[List.take_take,Nat.min_eq_left h]
 rw[e] at hy
 exact List.mem_of_mem_take hy
theorem nD{p:Nat->List Cell->Bool}{ps:List Cell}(nd:ps.Nodup):∀ k,k<=ps.length->∀ l,l∈layAt p ps k↔(l.Sublist (ps.take k)/\∀ j,j<k->p j (upto ps (j+1) l)=true)
 |0,_,l=>by
  unfold layAt
  rw[List.mem_singleton,List.take_zero,List.sublist_nil]
  exact⟨fun h=>⟨h,fun j hj=>absurd hj (by lia)⟩,fun h=>h.1⟩
 |k+1,hk,l=>by
  have ih:=nD (p:=p) nd k (by lia)
  unfold layAt
  have hk':k<ps.length:=by lia
  have nin:=rZ nd hk'
  rw[List.mem_filter,gO hk']
  have X8:∀ l':List Cell,l'.Sublist (ps.take k)->∀ j,j<k->upto ps (j+1) (l'++[ps.getD k (0,0)])=upto ps (j+1) l':=fun l' _ j hj=>by
   unfold upto
   rw[List.filter_append]
   have:[ps.getD k (0,0)].filter (fun y=>decide (y∈ps.take (j+1)))=[]:=by
    rw[List.filter_cons,if_neg (by rw[decide_eq_false (fun z=>nin (Jq (by lia) z))];exact Bool.false_ne_true)];rfl
   rw[this,List.append_nil]
  constructor
  ·rintro⟨hl,hp⟩
   have all:∀ l':List Cell,l'.Sublist (ps.take k++[ps.getD k (0,0)])->upto ps (k+1) l'=l':=fun l' h'=>BP fun y hy=>by rw[gO hk'];exact h'.subset hy
   rcases List.mem_append.mp hl with z|z
   ·obtain⟨h1,h2⟩:=(ih l).mp z
    have hs:l.Sublist (ps.take k++[ps.getD k (0,0)]):=h1.trans (List.sublist_append_left _ _)
    refine⟨hs,fun j hj=>?_⟩
    by_cases e:j=k
    ·subst e;rw[all l hs];exact hp
    ·exact h2 j (by lia)
   ·obtain⟨l',m',rfl⟩:=List.mem_map.mp z
    obtain⟨h1,h2⟩:=(ih l').mp m'
    have hs:(l'++[ps.getD k (0,0)]).Sublist (ps.take k++[ps.getD k (0,0)]):=h1.append (List.Sublist.refl _)
    refine⟨hs,fun j hj=>?_⟩
    by_cases e:j=k
    ·subst e;rw[all _ hs];exact hp
    ·rw[X8 l' h1 j (by lia)];exact h2 j (by lia)
  ·rintro⟨hs,hp⟩
   have hpk:=hp k (by lia)
   rw[BP (fun y hy=>by rw[gO hk'];exact hs.subset hy)] at hpk
   refine⟨?_,hpk⟩
   obtain⟨l1,l2,e,s1,s2⟩:=List.sublist_append_iff.mp hs
   subst e
   have:l2=[]\/l2=[ps.getD k (0,0)]:=by
    cases l2 with
    |nil=>exact .inl rfl
    |cons a l2=>
     right
     exact s2.eq_of_length_le (by simp)
   rcases this with rfl|rfl
   ·refine List.mem_append_left _ ((ih _).mpr ⟨by simpa using s1,fun j hj=>hp j (by lia)⟩)
   ·refine List.mem_append_right _ (List.mem_map.mpr ⟨l1,(ih l1).mpr ⟨s1,fun j hj=>?_⟩,rfl⟩)
    have:=hp j (by lia)
    rwa[X8 l1 s1 j hj] at this
theorem gn{p:Nat->List Cell->Bool}{ps:List Cell}(nd:ps.Nodup):∀ k,k<=ps.length->(layAt p ps k).Nodup
 |0,_=>by unfold layAt;simp
 |k+1,hk=>by
  have ih:=gn (p:=p) nd k (by lia)
  unfold layAt
  refine List.Nodup.sublist List.filter_sublist (List.nodup_append.mpr ⟨ih,?_,fun a ha b hb e=>?_⟩)
  ·exact List.pairwise_map.mpr (ih.imp fun h e=>h (List.append_cancel_right e))
  ·obtain⟨b',_,rfl⟩:=List.mem_map.mp hb
   subst e
   have:=((nD nd k (by lia) _).mp ha).1
   exact rZ nd (by lia) (this.subset (by simp))
theorem nC(p:Nat->List Cell->Bool)(ps:List Cell):∀ k,(layAt p ps k).length<=2^k
 |0=>Nat.le_refl _
 |k+1=>by
  unfold layAt
  refine Nat.le_trans (List.length_filter_le _ _) ?_
  rw[List.length_append,List.length_map,Nat.pow_succ]
  have:=nC p ps k
  lia
theorem jB{p:Nat->List Cell->Bool}{ps:List Cell}:∀ k,∀ l∈layAt p ps k,l.length<=k
 |0,l,h=>by unfold layAt at h;rw[List.mem_singleton.mp h];exact Nat.le_refl _
 |k+1,l,h=>by
  unfold layAt at h
  rcases List.mem_append.mp (List.mem_filter.mp h).1 with z|z
  ·have:=jB k l z;lia
  ·obtain⟨l',m',rfl⟩:=List.mem_map.mp z
   have:=jB k l' m'
   rw[List.length_append,List.length_singleton];lia
def jt(N l:List Cell):Nat:=(N.filter fun y=>decide (y∈l)).length
def dZ(N:List Cell)(f:Int)(rest:Nat)(l:List Cell):Bool:=decide ((jt N l:Int)<=f)&&decide (f<=(jt N l:Int)+rest)
def uE(N:List Cell)(c:Cell):Nat:=(N.filter fun y=>fW c y).length
def pP(zs:List Str)(w:Nat)(ps:List Cell)(k:Nat)(l:List Cell):Bool:=
 (aH zs w (ps.getD k (0,0))).all fun t=>dZ (aB zs w t) (cg zs t) (uE (aB zs w t) (ps.getD k (0,0))) l
def bO(zs:List Str)(w:Nat)(ps:List Cell)(t:Cell):List Cell:=(aZ zs.length w t).filter fun y=>decide (y∈ps)
def jf(zs:List Str)(w:Nat)(ps:List Cell):List Cell:=(bx zs w "012345678").filter fun t=>decide (0<(bO zs w ps t).length)
def gJ(N ps:List Cell)(k:Nat):Nat:=(N.filter fun y=>decide (y∈ps.drop (k+1))).length
def pL(zs:List Str)(w:Nat)(ps:List Cell)(k:Nat)(l:List Cell):Bool:=
 (jf zs w ps).all fun t=>dZ (bO zs w ps t) (cg zs t) (gJ (bO zs w ps t) ps k) l
theorem FN{N:List Cell}{a b c:Cell->Bool}(h:∀ y∈N,a y=true->b y=true\/c y=true):(N.filter a).length<=(N.filter b).length+(N.filter c).length:=by
 induction N with
 |nil=>simp
 |cons y N ih=>
  have ih':=ih fun z hz=>h z (List.mem_cons_of_mem _ hz)
  have hy:=h y List.mem_cons_self
  simp only[List.filter_cons]
  cases ha:a y<;>cases hb:b y<;>cases hc:c y<;>simp_all<;>lia
theorem HW{N:List Cell}{a b:Cell->Bool}(h:∀ y∈N,a y=true->b y=true):(N.filter a).length<=(N.filter b).length:=by
 have:=FN (N:=N) (a:=a) (b:=b) (c:=fun _=>false) fun y hy hz=>.inl (h y hy hz)
 have e:N.filter (fun _=>false)=[]:=List.filter_eq_nil_iff.mpr fun _ _=>Bool.false_ne_true
 rw[e] at this
 simpa using this
theorem xr{N:List Cell}{a:Cell->Bool}(h:∀ y∈N,a y=false):(N.filter a).length=0:=by
 rw[List.filter_eq_nil_iff.mpr fun y hy=>by rw[h y hy];exact Bool.false_ne_true];rfl
theorem xu{N:List Cell}{a b:Cell->Bool}(h:∀ y∈N,a y=b y):(N.filter a).length=(N.filter b).length:=by rw[List.filter_congr h]
section
variable{zs:List Str}{w:Nat}{ps:List Cell}
structure Part(zs:List Str)(w:Nat)(ps:List Cell):Prop where
 asc:ps.Pairwise bF
 ne:ps≠[]
 cl:∀ x∈ps,aX zs w x=true/\inF zs.length w x
 all:∀ x∈ps,∀ t∈aH zs w x,∀ y∈aB zs w t,y∈ps
theorem Part.join{c:Cell}(h6:zs.length<=6)(w6:w<=6)(hc:c∈aJ zs w):Part zs w (bQ zs w c):=by
 have hin:=gD hc
 refine⟨jy h6 w6,fun z=>?_,fun x hx=>?_,fun x hx t ht y hy=>?_⟩
 ·have:c∈bQ zs w c:=(dG hin).mpr .base
  rw[z] at this;cases this
 ·have:=fU.edge hc ((dG hin).mp hx)
  exact⟨(jC.mp this).1,gD this⟩
 ·exact(dG hin).mpr (.step ((dG hin).mp hx) ht hy)
theorem Part.nd(p:Part zs w ps):ps.Nodup:=iH p.asc
theorem Part.near(p:Part zs w ps){x t:Cell}(hx:x∈ps)(ht:t∈aH zs w x):x∈aB zs w t:=by
 obtain⟨h1,h2,h3⟩:=dh ht
 exact List.mem_filter.mpr ⟨iI h3 (p.cl x hx).2,(p.cl x hx).1⟩
theorem xP{x t:Cell}(hx:x∈aB zs w t)(tin:inF zs.length w t)(to:aX zs w t=false):t∈aH zs w x:=by
 obtain⟨h1,h2⟩:=List.mem_filter.mp hx
 exact List.mem_filter.mpr ⟨iI h1 tin,by rw[to];rfl⟩
theorem Part.some(p:Part zs w ps){x t:Cell}(hx:x∈ps)(ht:t∈aH zs w x):bO zs w ps t=aB zs w t:=by
 unfold bO aB
 refine List.filter_congr fun y hy=>?_
 cases hc:aX zs w y
 ·exact decide_eq_false fun z=>by rw[(p.cl y z).1] at hc;cases hc
 ·exact decide_eq_true (p.all x hx t ht y (List.mem_filter.mpr ⟨hy,hc⟩))
theorem Part.told(v:Vw zs w)(p:Part zs w ps)(t:Cell):t∈jf zs w ps↔∃ x∈ps,t∈aH zs w x:=by
 unfold jf
 rw[List.mem_filter,iV v,decide_eq_true_iff,List.length_pos_iff_exists_mem]
 constructor
 ·rintro⟨⟨h1,h2⟩,x,hx⟩
  obtain⟨h3,h4⟩:=List.mem_filter.mp hx
  have h4:=of_decide_eq_true h4
  exact⟨x,h4,xP (List.mem_filter.mpr ⟨h3,(p.cl x h4).1⟩) h1 h2⟩
 ·rintro⟨x,hx,ht⟩
  obtain⟨h1,h2,_⟩:=dh ht
  refine⟨⟨h1,h2⟩,x,?_⟩
  rw[p.some hx ht];exact p.near hx ht
theorem Part.split(p:Part zs w ps){j:Nat}(hj:j<ps.length){y:Cell}(hy:y∈ps):(y∈ps.take (j+1)/\y∉ps.drop (j+1)/\fW (ps.getD j (0,0)) y=false)\/(y∉ps.take (j+1)/\y∈ps.drop (j+1)/\fW (ps.getD j (0,0)) y=true):=by
 have as:=p.asc
 have e:=List.take_append_drop (j+1) ps
 have nd:=p.nd
 rw[<- e] at as nd
 have dis:=(List.nodup_append.mp nd).2.2
 have hjm:ps.getD j (0,0)∈ps.take (j+1):=by rw[gO hj];exact List.mem_append_right _ (List.mem_singleton.mpr rfl)
 by_cases h:y∈ps.take (j+1)
 ·left
  refine⟨h,fun z=>dis y h y z rfl,?_⟩
  rw[gO hj] at h as
  rcases List.mem_append.mp h with z|z
  ·have h1:=(List.pairwise_append.mp (List.pairwise_append.mp as).1).2.2 y z _ (List.mem_singleton.mpr rfl)
   exact decide_eq_false (by unfold bF at *;lia)
  ·rw[List.mem_singleton.mp z];exact decide_eq_false (by unfold bF;lia)
 ·right
  rw[<- e] at hy
  have hd:y∈ps.drop (j+1):=(List.mem_append.mp hy).resolve_left h
  exact⟨h,hd,decide_eq_true ((List.pairwise_append.mp as).2.2 _ hjm y hd)⟩
theorem Part.beh(p:Part zs w ps){j:Nat}(hj:j<ps.length){N:List Cell}(hN:∀ y∈N,y∈ps):uE N (ps.getD j (0,0))=gJ N ps j:=by
 refine xu fun y hy=>?_
 rcases p.split hj (hN y hy) with⟨_,h2,h3⟩|⟨_,h2,h3⟩
 ·rw[h3,decide_eq_false h2]
 ·rw[h3,decide_eq_true h2]
theorem xJ{N l:List Cell}{f:Int}{r:Nat}:dZ N f r l=true↔((jt N l:Int)<=f/\f<=(jt N l:Int)+r):=by
 unfold dZ
 rw[Bool.and_eq_true,decide_eq_true_iff,decide_eq_true_iff]
theorem Part.before(p:Part zs w ps){j:Nat}(hj:j<ps.length){N l:List Cell}(hN:∀ y∈N,y∈ps){f:Int}(h:(jt N l:Int)=f):dZ N f (gJ N ps j) (upto ps (j+1) l)=true:=by
 rw[xJ,<- h]
 constructor
 ·have:=HW (N:=N) (a:=fun y=>decide (y∈upto ps (j+1) l)) (b:=fun y=>decide (y∈l)) fun y _ hz=>decide_eq_true (List.mem_filter.mp (of_decide_eq_true hz)).1
  unfold jt;lia
 ·have:=FN (N:=N) (a:=fun y=>decide (y∈l)) (b:=fun y=>decide (y∈upto ps (j+1) l)) (c:=fun y=>decide (y∈ps.drop (j+1))) fun y hy hz=>by
   rcases p.split hj (hN y hy) with⟨h1,_,_⟩|⟨_,h2,_⟩
   ·exact .inl (decide_eq_true (List.mem_filter.mpr ⟨of_decide_eq_true hz,decide_eq_true h1⟩))
   ·exact .inr (decide_eq_true h2)
  unfold jt gJ;lia
theorem Jy{j:Nat}{N l:List Cell}{f:Int}(hN:∀ y∈N,y∈ps.take (j+1))(h0:gJ N ps j=0)(h:dZ N f (gJ N ps j) (upto ps (j+1) l)=true):(jt N l:Int)=f:=by
 rw[xJ,h0] at h
 have e:jt N (upto ps (j+1) l)=jt N l:=xu fun y hy=>by
  rw[decide_eq_decide]
  exact⟨fun z=>(List.mem_filter.mp z).1,fun z=>List.mem_filter.mpr ⟨z,decide_eq_true (hN y hy)⟩⟩
 rw[e] at h
 lia
theorem Pk{N:List Cell}(h0:N≠[])(hN:∀ y∈N,y∈ps):∃ j,j<ps.length/\ps.getD j (0,0)∈N/\∀ y∈N,y∈ps.take (j+1):=by
 have go:∀ k,k<=ps.length->(∀ y∈N,y∈ps.take k)->∃ j,j<ps.length/\ps.getD j (0,0)∈N/\∀ y∈N,y∈ps.take (j+1):=by
  intro k
  induction k with
  |zero=>
   intro _ h
   cases N with
   |nil=>exact absurd rfl h0
   |cons a N=>have:=h a List.mem_cons_self;rw[List.take_zero] at this;cases this
  |succ k ih=>
   intro hk h
   by_cases hh:∀ y∈N,y∈ps.take k
   ·exact ih (by omega) hh
   ·have ⟨y,hy,hn⟩:∃ y,y∈N/\y∉ps.take k:=Classical.byContradiction fun hc=>hh fun y hy=>Classical.byContradiction fun hn=>hc ⟨y,hy,hn⟩
    have:=h y hy
    rw[gO (by omega)] at this
    have e:y=ps.getD k (0,0):=List.mem_singleton.mp ((List.mem_append.mp this).resolve_left hn)
    exact⟨k,by omega,by rw[<- e];exact hy,h⟩
 exact go ps.length (Nat.le_refl _) (fun y hy=>by rw[List.take_length];exact hN y hy)
def Rh(zs:List Str)(w:Nat)(ps l:List Cell):Prop:=∀ x∈ps,∀ t∈aH zs w x,(jt (aB zs w t) l:Int)=cg zs t
theorem Part.Yd(p:Part zs w ps)(l:List Cell):l∈layAt (pP zs w ps) ps ps.length↔(l.Sublist ps/\Rh zs w ps l):=by
 rw[nD p.nd _ (Nat.le_refl _),List.take_length]
 refine and_congr_right fun hs=>⟨fun h x hx t ht=>?_,fun h j hj=>?_⟩
 ·have hN:∀ y∈aB zs w t,y∈ps:=p.all x hx t ht
  have hx':=p.near hx ht
  obtain⟨j,hj,hm,hl⟩:=Pk (fun z=>by rw[z] at hx';cases hx') hN
  obtain⟨tin,to,_⟩:=dh ht
  have:=List.all_eq_true.mp (h j hj) t (xP hm tin to)
  rw[p.beh hj hN] at this
  refine Jy hl (xr fun y hy=>?_) this
  rcases p.split hj (hN y hy) with⟨_,h2,_⟩|⟨h2,_,_⟩
  ·exact decide_eq_false h2
  ·exact absurd (hl y hy) h2
 ·refine List.all_eq_true.mpr fun t ht=>?_
  have hx:ps.getD j (0,0)∈ps:=by rw[getD_at hj];exact List.getElem_mem _
  have hN:∀ y∈aB zs w t,y∈ps:=p.all _ hx t ht
  rw[p.beh hj hN]
  exact p.before hj hN (h _ hx t ht)
theorem Part.Yb(v:Vw zs w)(p:Part zs w ps)(l:List Cell):l∈layAt (pL zs w ps) ps ps.length↔(l.Sublist ps/\Rh zs w ps l):=by
 rw[nD p.nd _ (Nat.le_refl _),List.take_length]
 have n1:1<=ps.length:=by
  cases hp:ps with
  |nil=>exact absurd hp p.ne
  |cons a b=>simp
 refine and_congr_right fun hs=>⟨fun h x hx t ht=>?_,fun h j hj=>?_⟩
 ·have hN:∀ y∈aB zs w t,y∈ps:=p.all x hx t ht
  have:=List.all_eq_true.mp (h (ps.length-1) (by omega)) t ((p.told v t).mpr ⟨x,hx,ht⟩)
  rw[p.some hx ht] at this
  have e:ps.length-1+1=ps.length:=by omega
  refine Jy (fun y hy=>?_) (xr fun y hy=>?_) this
  ·rw[e,List.take_length];exact hN y hy
  ·rw[e,List.drop_length];exact decide_eq_false (by simp)
 ·refine List.all_eq_true.mpr fun t ht=>?_
  obtain⟨x,hx,ht⟩:=(p.told v t).mp ht
  have hN:∀ y∈aB zs w t,y∈ps:=p.all _ hx t ht
  rw[p.some hx ht]
  exact p.before hj hN (h _ hx t ht)
def gH(zs:List Str)(w:Nat)(ps:List Cell):List (List Cell):=(layAt (pP zs w ps) ps ps.length).mergeSort fun a b=>!llt b a
theorem iU:(gH zs w ps).Perm (layAt (pP zs w ps) ps ps.length):=List.mergeSort_perm _ _
theorem Ig:Hg (gH zs w ps):=by
 have h:(gH zs w ps).Pairwise fun a b=>(!llt b a)=true:=by
  refine List.pairwise_mergeSort (fun a b c h1 h2=>?_) (fun a b=>?_) _
  ·have h1:llt b a=false:=by simpa using h1
   have h2:llt c b=false:=by simpa using h2
   rw[pF.tr _ _ _ h1 h2];rfl
  ·cases h:llt b a
   ·rfl
   ·rw[pF.sZ _ _ h];rfl
 exact h.imp fun h=>by simpa using h
theorem Part.lays(p:Part zs w ps){ds:List (List Cell)}(h1:ds.Perm (layAt (pP zs w ps) ps ps.length))(h2:Hg ds):ds=gH zs w ps:=EY pF (h1.trans iU.symm) h2 Ig
theorem Part.Pn(v:Vw zs w)(p:Part zs w ps){ds:List (List Cell)}(h1:ds.Perm (layAt (pL zs w ps) ps ps.length))(h2:Hg ds):ds=gH zs w ps:=by
 refine p.lays (h1.trans ?_) h2
 refine(List.perm_ext_iff_of_nodup (gn p.nd _ (Nat.le_refl _)) (gn p.nd _ (Nat.le_refl _))).mpr fun l=>?_
 rw[p.Yb v,p.Yd]
theorem Ih(h:ps.length<=12):(gH zs w ps).length<=4096:=by
 rw[iU.length_eq]
 exact Nat.le_trans (nC _ _ _) (Nat.pow_le_pow_right (by decide) h)
theorem Ii{l:List Cell}(hl:l∈gH zs w ps):l.length<=ps.length:=jB _ l (iU.mem_iff.mp hl)
theorem oH{x y:Cell}(h6:zs.length<=6)(w6:w<=6)(hx:x∈aJ zs w)(hy:y∈bQ zs w x):bQ zs w y=bQ zs w x:=by
 have ix:=gD hx
 have c1:=(dG ix).mp hy
 have ey:=fU.edge hx c1
 have c2:=fU.symm (jC.mp hx).1 ix c1
 refine Ck (jy h6 w6) (jy h6 w6) fun z=>?_
 rw[dG (gD ey),dG ix]
 exact⟨fun c=>c1.trans c,fun c=>c2.trans c⟩
structure O8(zs:List Str)(w:Nat)(ps:List (List Cell)):Prop where
 of:∀ p∈ps,∃ x∈aJ zs w,p=bQ zs w x
 dis:ps.Pairwise fun a b=>∀ y∈a,y∉b
theorem vC(h6:zs.length<=6)(w6:w<=6):∀(cs:List Cell)(ps:List (List Cell)),(∀ c∈cs,c∈aJ zs w)->O8 zs w ps->O8 zs w (fB zs w cs ps)/\(∀ c∈cs,∃ p∈fB zs w cs ps,c∈p)/\(∀ p∈ps,p∈fB zs w cs ps)
 |[],ps,_,ok=>by unfold fB;exact⟨ok,(fun c hc=>by cases hc),fun p hp=>hp⟩
 |c::cs,ps,hcs,ok=>by
  have hc:=hcs c List.mem_cons_self
  have ic:=gD hc
  have self:c∈bQ zs w c:=(dG ic).mpr .base
  unfold fB
  by_cases h:∃ p∈ps,c∈p
  ·rw[if_pos h]
   obtain⟨a1,a2,a3⟩:=vC h6 w6 cs ps (fun d hd=>hcs d (List.mem_cons_of_mem _ hd)) ok
   refine⟨a1,fun d hd=>?_,a3⟩
   rcases List.mem_cons.mp hd with z|z
   ·obtain⟨p,hp,hcp⟩:=h
    exact⟨p,a3 p hp,by rw[z];exact hcp⟩
   ·exact a2 d z
  ·rw[if_neg h]
   have ok2:O8 zs w (ps++[bQ zs w c]):=by
    refine⟨fun p hp=>?_,List.pairwise_append.mpr ⟨ok.dis,List.pairwise_singleton _ _,fun a ha b hb y hy hy2=>?_⟩⟩
    ·rcases List.mem_append.mp hp with z|z
     ·exact ok.of p z
     ·exact⟨c,hc,List.mem_singleton.mp z⟩
    ·rw[List.mem_singleton.mp hb] at hy2
     obtain⟨x,hx,rfl⟩:=ok.of a ha
     refine h ⟨_,ha,?_⟩
     rw[<- oH h6 w6 hx hy,oH h6 w6 hc hy2];exact self
   obtain⟨a1,a2,a3⟩:=vC h6 w6 cs (ps++[bQ zs w c]) (fun d hd=>hcs d (List.mem_cons_of_mem _ hd)) ok2
   refine⟨a1,fun d hd=>?_,fun p hp=>a3 p (List.mem_append_left _ hp)⟩
   rcases List.mem_cons.mp hd with z|z
   ·exact⟨_,a3 _ (List.mem_append_right _ (List.mem_singleton.mpr rfl)),by rw[z];exact self⟩
   ·exact a2 d z
theorem xU(h6:zs.length<=6)(w6:w<=6):O8 zs w (fZ zs w)/\∀ c∈aJ zs w,∃ p∈fZ zs w,c∈p:=by
 obtain⟨a1,a2,_⟩:=vC (zs:=zs) (w:=w) h6 w6 (aJ zs w) [] (fun c hc=>hc) ⟨(fun p hp=>by cases hp),.nil⟩
 exact⟨a1,a2⟩
theorem Ud{c:Cell}(h6:zs.length<=6)(w6:w<=6)(hc:c∈aJ zs w):(fZ zs w).filter (fun p=>decide (c∈p))=[bQ zs w c]:=by
 obtain⟨ok,cov⟩:=xU (zs:=zs) (w:=w) h6 w6
 obtain⟨p,hp,hcp⟩:=cov c hc
 have one:∀ q∈(fZ zs w).filter (fun p=>decide (c∈p)),q=bQ zs w c:=fun q hq=>by
  obtain⟨h1,h2⟩:=List.mem_filter.mp hq
  obtain⟨x,hx,rfl⟩:=ok.of q h1
  exact(oH h6 w6 hx (of_decide_eq_true h2)).symm
 have dis:((fZ zs w).filter (fun p=>decide (c∈p))).Pairwise fun a b=>∀ y∈a,y∉b:=ok.dis.sublist List.filter_sublist
 have hm:p∈(fZ zs w).filter (fun p=>decide (c∈p)):=List.mem_filter.mpr ⟨hp,decide_eq_true hcp⟩
 have inn:∀ q∈(fZ zs w).filter (fun p=>decide (c∈p)),c∈q:=fun q hq=>of_decide_eq_true (List.mem_filter.mp hq).2
 generalize (fZ zs w).filter (fun p=>decide (c∈p))=l at one dis hm inn
 match l,one,dis,hm,inn with
 |[a],one,_,_,_=>rw[one a List.mem_cons_self]
 |a::b::l,_,dis,_,inn=>exact absurd (inn b (by simp)) ((List.pairwise_cons.mp dis).1 b List.mem_cons_self c (inn a List.mem_cons_self))
theorem Q6{c:Cell}(h6:zs.length<=6)(w6:w<=6)(hc:c∉aJ zs w):(fZ zs w).filter (fun p=>decide (c∈p))=[]:=by
 obtain⟨ok,_⟩:=xU (zs:=zs) (w:=w) h6 w6
 refine List.filter_eq_nil_iff.mpr fun p hp h=>hc ?_
 obtain⟨x,hx,rfl⟩:=ok.of p hp
 exact fU.edge hx ((dG (gD hx)).mp (of_decide_eq_true h))
theorem qX{K:PySem.W.Frag}{H0 H:Hp}{q:Addr}{qs:List Addr}{ps:List (List Cell)}(p:lH K H0 H q qs ps):cF (dI K H0) H (qs.map V.ref) ps:=by
 have go:∀(qs:List Addr)(ps:List (List Cell)),qs.length=ps.length->(∀(i:Nat)(a:Addr)(p:List Cell),qs[i]?=some a->ps[i]?=some p->Ls K H a (p.map ao))->(∀ a∈qs,H0 a=none)->cF (dI K H0) H (qs.map V.ref) ps:=by
  intro qs
  induction qs with
  |nil=>intro ps e _ _;cases ps with
   |nil=>exact .nil
   |cons _ _=>simp at e
  |cons a qs ih=>
   intro ps e h n
   cases ps with
   |nil=>simp at e
   |cons p ps=>
    exact .cons ⟨a,rfl,n a List.mem_cons_self,h 0 a p rfl rfl⟩ (ih ps (by simpa using e) (fun i b q h1 h2=>h (i+1) b q (by simpa using h1) (by simpa using h2)) fun b hb=>n b (List.mem_cons_of_mem _ hb))
 exact go qs ps p.len p.ls p.new
end
end My
namespace My
open PySem L2
theorem lQ(zs:List Str)(w:Nat)(x:Cell):(aB zs w x).length<=8:=Nat.le_trans (List.length_filter_le _ _) (cT _ _ _)
def zV(zs:List Str)(w:Nat)(c t:Cell):Dt:=.tup [.int (cg zs t),.lst ((aB zs w t).map ao),.int (uE (aB zs w t) c)]
def xY(K:PySem.W.Frag)(C:Addr):Sp:=fun vs H Q _=>∃(x:Addr)(v:V)(zs:List Str)(w:Nat)(c:Cell),vs=[.ref x,v]/\fY C H x zs w/\Den K H v (ao c)/\inF zs.length w c/\∀ q H',Fr K H H' q ((aH zs w c).map (zV zs w c))->Q (.ref q) H'
section
variable{P:Program}{w:World}{K:PySem.W.Frag}{mg:Str->Option Value}{base:Heap}{Z:Adr}
theorem DG{f:Addr}{fd:FuncData} (F:Fun K "demands" "demands" rA f fd) (T:Txt K mg Z) (cV:Df P w K mg base 3 "open_near" ["view","cell"] (oW K Z.View aH)) (eF:Df P w K mg base 3 "closed_near" ["view","cell"] (oW K Z.View aB)) (uo:Df P w K mg base 1 "figure" ["view","cell"] (Bt K Z.View)) :
  cu P w K mg base (CXE P w) 4 f fd ["view","last"] (xY K Z.View):=by
 refine F.rok j9 (fun vs H Q E h=>?_) (fun cdv A outer s H vs Q E hr h=>?_)
 ·obtain⟨x,v,zs,w,c,rfl,_⟩:=h;rfl
 ·obtain⟨x,v,zs,w,c,rfl,vt,dv,hin,hq⟩:=h
  have hu:=oG hr
  refine⟨_,(au (aL (i:=2) j9.nd rfl (by first|exact Or.inl rfl|exact Or.inr rfl) (cQ ak)) (au (bW PassesOwn.never rfl (aQ (K:=K) (aV cV hr rfl aU (aj (rv 0) (aj (rv 1) ak)))) (aR (i:=3) j9.nd rfl (by first|exact Or.inl rfl|exact Or.inr rfl)) (au (aL (i:=4) j9.nd rfl (by first|exact Or.inl rfl|exact Or.inr rfl) (aV eF hr rfl aU (aj (rv 0) (aj (rv 3) ak)))) (au (kj (i:=5) j9.nd rfl rfl (by rfl) rfl (aQ (K:=K) (rv 4)) (fun _ _ _=>(cL (bD (W8 (K:=K) hu) (rv 0) (rv 2) (cC _)))) (fun _ _ _=>(rv 0))) (aC (fP (jA (K:=K) PySem.F.plainAttrs_list PySem.F.slot_list_append PySem.F.type_list_append cO (rv 2) (aj (cZ (aj (aV uo hr rfl aU (aj (rv 0) (aj (rv 3) ak))) (aj (rv 4) (aj (aK (cN (K:=K)) rfl T.cG bK (aj (rv 5) ak)) ak)))) ak))))))) (aC (bC (rv 2))))),?_⟩
  refine aD (fun σ H1=>∃ q:Addr,H q=none/\Same H H1/\H1 q=some (.lst [])/\σ=[some (.ref x),some v,some (.ref q),none,none,none]) (fun R hR=>?_) ?_
  ·exact⟨by decide,fun q nq=>hR _ _ ⟨q,nq,Same.put nq,aA,rfl⟩⟩
  rintro σ H1 ⟨q,nq,s1,eq1,rfl⟩
  refine aD (fun σ H2=>∃(us:List V)(v3 v4 v5:Option V),Same H H2/\H2 q=some (.lst us)/\aN K (del q H2) us ((aH zs w c).map (zV zs w c))/\σ=[some (.ref x),some v,some (.ref q),v3,v4,v5]) (fun R hR=>?_) ?_
  ·refine⟨_,rfl,_,rfl,x,_,zs,w,c,rfl,vt.mono s1,dv.mono s1,hin,fun tl H2 f2=>?_⟩
   obtain⟨ts,et,Dt'⟩:=f2.ls
   have lts:ts.length=(aH zs w c).length:=by rw[Dt'.length,List.length_map]
   have lt8:=pJ zs w c
   have ntq:tl≠q:=fun z=>by have:=f2.new;rw[z,eq1] at this;cases this
   refine⟨tl,rfl,⟨_,SqL.of et⟩,?_⟩
   refine cX (K:=K) (xs:=ts) (fun i σ H3=>∃(us:List V)(v3 v4 v5:Option V),Same H H3/\H3 tl=some (.lst ts)/\aN K H3 ts ((aH zs w c).map ao)/\H3 q=some (.lst us)/\aN K (del q H3) us (((aH zs w c).take i).map (zV zs w c))/\σ=[some (.ref x),some v,some (.ref q),v3,v4,v5])
    ⟨[],none,none,none,s1.trans f2.same,et,Dt',f2.same _ _ eq1,.nil,rfl⟩ (fun i σ H3 _ hh=>by obtain⟨_,_,_,_,_,e,_⟩:=hh;exact SqL.of e) (fun i u σ H3 hu' hh=>?_) (fun σ H3 hh=>?_)
   ·obtain⟨us,v3,v4,v5,sh,et3,Dt3,eq3,D3,rfl⟩:=hh
    obtain⟨dt,edt,du⟩:=Dt3.get hu'
    rw[List.getElem?_map] at edt
    obtain⟨t,etq,rfl⟩:=Option.map_eq_some_iff.mp edt
    have hi:i<(aH zs w c).length:=(List.getElem?_eq_some_iff.mp etq).1
    obtain⟨tin,to,_⟩:=dh (List.mem_of_getElem? etq)
    refine aD (fun σ H4=>∃ a:Addr,Same H3 H4/\H3 a=none/\Ls K H4 a ((aB zs w t).map ao)/\σ=[some (.ref x),some v,some (.ref q),some u,some (.ref a),v5]) (fun R' hR'=>?_) ?_
    ·exact⟨_,rfl,_,rfl,x,_,zs,w,t,rfl,vt.mono sh,du,tin,fun a H4 f4=>hR' _ _ ⟨a,f4.same,f4.new,f4.ls,rfl⟩⟩
    rintro σ H4 ⟨a,s4,na,la,rfl⟩
    obtain⟨as,ea,Da⟩:=id la
    have lc8:=lQ zs w t
    refine aD (fun σ H5=>∃ b:Addr,Same H4 H5/\Ls K H5 b (((aB zs w t).filter fun y=>fW c y).map ao)/\σ=[some (.ref x),some v,some (.ref q),some u,some (.ref a),some (.ref b)]) (fun R' hR'=>?_) ?_
    ·refine⟨_,rfl,a,rfl,⟨_,SqL.of ea⟩,bY (K:=K) (xs:=aB zs w t) (enc:=ao) (bf (SqL.of ea)) Da (small (by lia)) (fun y=>fW c y) ao (fun y hy u' H5 s5 d G hG=>?_) (fun y hy _ u' H5 s5 d G hG=>⟨_,rfl,hG _ _ (Same.refl _) d⟩) (fun ys H5 s5 D5 b hb=>?_)⟩
     ·exact⟨_,rfl,_,rfl,y,c,d,dv.mono (sh.trans (s4.trans s5)),_,rfl,hG _ (Same.refl _)⟩
     ·exact hR' _ _ ⟨b,s5.and hb,.new hb D5,rfl⟩
    rintro σ H5 ⟨b,s5,lb,rfl⟩
    have eq5:=s5 _ _ (s4 _ _ eq3)
    have lus:us.length<=8:=by rw[D3.length,List.length_map,List.length_take];lia
    refine⟨_,rfl,.inl ⟨rfl,_,SqL.of eq5⟩,?_⟩
    refine⟨_,rfl,_,rfl,x,_,zs,w,t,rfl,vt.mono (sh.trans (s4.trans s5)),du.mono (s4.trans s5),tin,to,?_⟩
    refine⟨_,rfl,_,rfl,?_⟩
    dsimp only[je]
    refine jX lb.den ?_
    refine⟨sz rfl,fun tt nt=>?_⟩
    have s6:=Same.put (o:=.tup [.int (cg zs t),.ref a,.int ((((aB zs w t).filter fun y=>fW c y).map ao).length:Int)]) nt
    refine qY (K:=K) (s6 _ _ eq5) (by lia) ?_
    have sb:SameBut q (upd H5 tt (.tup [.int (cg zs t),.ref a,.int ((((aB zs w t).filter fun y=>fW c y).map ao).length:Int)])) (upd (upd H5 tt (.tup [.int (cg zs t),.ref a,.int ((((aB zs w t).filter fun y=>fW c y).map ao).length:Int)])) q (.lst (us++[.ref tt]))):=(SameBut.refl q _).put
    have naq:a≠q:=fun z=>by rw[z,eq3] at na;cases na
    have Yo:tt≠q:=fun z=>by rw[z,eq5] at nt;cases nt
    have sH:Same H3 (upd H5 tt (.tup [.int (cg zs t),.ref a,.int ((((aB zs w t).filter fun y=>fW c y).map ao).length:Int)])):=(s4.trans s5).trans s6
    refine⟨us++[.ref tt],_,_,_,sb.of (sh.trans sH) nq,sb _ _ (sH _ _ et3) ntq,sb.cells (s6 _ _ eq5) (Dt3.mono sH),aA,?_,rfl⟩
    rw[List.take_succ,etq,List.map_append]
    refine(D3.mono ((sH.but q).trans sb).del).append (.cons ?_ .nil)
    have dn:Same (del q (upd H5 tt (.tup [.int (cg zs t),.ref a,.int ((((aB zs w t).filter fun y=>fW c y).map ao).length:Int)]))) (del q (upd (upd H5 tt (.tup [.int (cg zs t),.ref a,.int ((((aB zs w t).filter fun y=>fW c y).map ao).length:Int)])) q (.lst (us++[.ref tt])))):=sb.del
    refine Den.mono dn ?_
    unfold zV
    refine Den.tup (by rw[uO Yo];exact aA) (.cons (.int _) (.cons (CW (s6 _ _ eq5) naq (la.mono (s5.trans s6))).den (.cons ?_ .nil)))
    rw[List.length_map];exact .int _
   ·obtain⟨us,v3,v4,v5,sh,et3,Dt3,eq3,D3,rfl⟩:=hh
    rw[lts,List.take_length] at D3
    exact hR _ _ ⟨us,v3,v4,v5,sh,eq3,D3,rfl⟩
  rintro σ H2 ⟨us,v3,v4,v5,s2,eq2,D2,rfl⟩
  exact⟨_,rfl,hq q _ ⟨s2,nq,us,eq2,D2.mono iT⟩⟩
theorem Ol{H:Hp}{v:V}{zs:List Str}{wd:Nat}{c t:Cell}(h:Den K H v (zV zs wd c t)):∃(b:Addr)(y:V),v=.ref b/\H b=some (.tup [.int (cg zs t),y,.int (uE (aB zs wd t) c)])/\Den K H y (.lst ((aB zs wd t).map ao)):=by
 unfold zV at h
 cases h with
 |tup ht hs=>
  cases hs with
  |cons h1 hs=>
   cases hs with
   |cons h2 hs=>
    cases hs with
    |cons h3 hs=>
     cases hs;cases h1;cases h3
     exact⟨_,_,rfl,ht,h2⟩
def jT(zs:List Str)(wd:Nat)(c:Cell)(ts l:List Cell):Bool:=ts.all fun t=>dZ (aB zs wd t) (cg zs t) (uE (aB zs wd t) c) l
def RD(K:PySem.W.Frag):Sp:=fun vs H Q _=>∃(v:V)(q:Addr)(zs:List Str)(wd:Nat)(c:Cell)(ts l:List Cell),vs=[v,.ref q]/\Den K H v (oN l)/\Ls K H q (ts.map (zV zs wd c))/\∀ H',Same H H'->Q (.bl (jT zs wd c ts l)) H'
theorem TY{f:Addr}{fd:FuncData} (F:Fun K "may_hold" "may_hold" oV f fd) (T:Txt K mg Z):cu P w K mg base (CXE P w) 1 f fd ["laying","asked"] (RD K):=by
 refine F.rok mK (fun vs H Q E h=>?_) (fun cdv A outer s H vs Q E hr h=>?_)
 ·obtain⟨v,q,zs,w,c,ts,l,rfl,_⟩:=h;rfl
 ·obtain⟨v,q,zs,wd,c,ts,l,rfl,dv,lq,hq⟩:=h
  have hu:=oG hr
  have hu':=tE hr
  refine⟨_,(au (bW PassesOwn.never rfl (aQ (K:=K) (rv 1)) (aR (i:=2) mK.nd rfl (by first|exact Or.inl rfl|exact Or.inr rfl)) (au (aL (i:=3) mK.nd rfl (by first|exact Or.inl rfl|exact Or.inr rfl) (aK (cN (K:=K)) rfl T.cG bK (aj (dW (by rfl) rfl (aQ (K:=K) (bR (bZ (K:=K)) (rv 2) aF)) (fun _ _ _=>(cL (bD (eV.or (nY (K:=K) hu')) (rv 0) (rv 1) (by rfl)))) (fun _ _ _=>(rv 0))) ak))) (aC (dM (mq (pW lA lA (rv 3) (bR (bZ (K:=K)) (rv 2) aF) (bV aY (rv 3) (bR (bZ (K:=K)) (rv 2) aF)))) (aC (bC vG)) bU)))) (aC (bC vG))),?_⟩
  obtain⟨l',rfl⟩:∃ a,v=.ref a:=by cases dv;exact⟨_,rfl⟩
  obtain⟨xs,ex,Dx⟩:=lq
  have lx:xs.length=ts.length:=by rw[Dx.length,List.length_map]
  refine aD (fun σ H1=>∃(v2 v3:Option V),Same H H1/\jT zs wd c ts l=true/\σ=[some (.ref l'),some (.ref q),v2,v3]) (fun R hR=>?_) ?_
  ·refine⟨_,rfl,q,rfl,⟨_,SqL.of ex⟩,?_⟩
   refine cX (K:=K) (xs:=xs) (fun i σ H1=>∃(v2 v3:Option V),Same H H1/\(∀ t∈ts.take i,dZ (aB zs wd t) (cg zs t) (uE (aB zs wd t) c) l=true)/\σ=[some (.ref l'),some (.ref q),v2,v3])
    ⟨none,none,Same.refl _,(fun t ht=>by cases ht),rfl⟩ (fun i σ H1 _ hh=>by obtain⟨_,_,g,_⟩:=hh;exact SqL.of (g _ _ ex)) (fun i u σ H1 hi hh=>?_) (fun σ H1 hh=>?_)
   ·obtain⟨v2,v3,g1,g2,rfl⟩:=hh
    obtain⟨d,ed,du⟩:=Dx.get hi
    rw[List.getElem?_map] at ed
    obtain⟨t,et,rfl⟩:=Option.map_eq_some_iff.mp ed
    obtain⟨b,y,rfl,eb,dy⟩:=Ol (du.mono g1)
    obtain⟨yl,rfl⟩:∃ a,y=.ref a:=by cases dy;exact⟨_,rfl⟩
    have lc8:=lQ zs wd t
    refine aD (fun σ H2=>Same H1 H2/\σ=[some (.ref l'),some (.ref q),some (.ref b),some (.int (jt (aB zs wd t) l))]) (fun R' hR'=>?_) ?_
    ·refine⟨_,rfl,.inr (.inl ⟨b,_,_,_,rfl,rfl,SqT.of eb,eZ (j:=1) rfl,?_⟩)⟩
     cases dy with
     |lst hy Dy=>
      refine⟨yl,rfl,⟨_,hy⟩,bY (K:=K) (xs:=aB zs wd t) (enc:=ao) (bf hy) Dy (small (by lia)) (fun y=>decide (y∈l)) ao (fun y hy u' H5 s5 d G hG=>?_) (fun y hy _ u' H5 s5 d G hG=>⟨_,rfl,hG _ _ (Same.refl _) d⟩) (fun ys H5 s5 D5 n hn=>?_)⟩
      ·exact⟨_,rfl,_,rfl,.inr (vI d (dv.mono (g1.trans s5)) ⟨_,rfl,hG _ (Same.refl _)⟩)⟩
      ·dsimp only[je]
       refine jX (Ls.new hn D5).den ?_
       rw[List.length_map]
       exact hR' _ _ ⟨s5.and hn,rfl⟩
    rintro σ H2 ⟨s2,rfl⟩
    have eb2:=s2 _ _ eb
    have nxt:dZ (aB zs wd t) (cg zs t) (uE (aB zs wd t) c) l=true->∃(v2 v3:Option V),Same H H2/\(∀ t∈ts.take (i+1),dZ (aB zs wd t) (cg zs t) (uE (aB zs wd t) c) l=true)/\[some (.ref l'),some (.ref q),some (.ref b),some (.int (jt (aB zs wd t) l))]=[some (V.ref l'),some (.ref q),v2,v3]:=fun hb=>⟨_,_,g1.trans s2,fun t' ht'=>by
     rw[List.take_succ,et] at ht'
     rcases List.mem_append.mp ht' with z|z
     ·exact g2 t' z
     ·rw[List.mem_singleton.mp z];exact hb,rfl⟩
    have bad:dZ (aB zs wd t) (cg zs t) (uE (aB zs wd t) c) l=false->Q (.bl false) H2:=fun hb=>by
     have:jT zs wd c ts l=false:=by
      cases e:jT zs wd c ts l
      ·rfl
      ·have:=List.all_eq_true.mp e t (List.mem_of_getElem? et)
       rw[hb] at this;cases this
     rw[<- this];exact hq _ (g1.trans s2)
    refine⟨_,rfl,_,rfl,.inr (.inl ⟨b,_,_,_,rfl,rfl,SqT.of eb2,cW,?_⟩)⟩
    refine⟨_,_,rfl,rfl,_,rfl,?_⟩
    refine fj (fun h1=>?_) (fun h1=>?_)
    ·refine⟨_,rfl,_,rfl,.inr (.inl ⟨b,_,_,_,rfl,rfl,SqT.of eb2,eZ (j:=2) rfl,?_⟩)⟩
     refine⟨_,_,rfl,rfl,_,rfl,?_⟩
     refine fj (fun h2=>?_) (fun h2=>?_)
     ·refine bad ?_
      unfold dZ
      rw[show decide (cg zs t<=(jt (aB zs wd t) l:Int)+(uE (aB zs wd t) c:Int))=false by simpa only[Bool.not_eq_true'] using h2,Bool.and_false]
     ·refine nxt ?_
      unfold dZ
      rw[h1,show decide (cg zs t<=(jt (aB zs wd t) l:Int)+(uE (aB zs wd t) c:Int))=true by simpa only[Bool.not_eq_false'] using h2];rfl
    ·refine⟨_,rfl,tH ?_⟩
     refine bad ?_
     unfold dZ
     rw[h1];rfl
   ·obtain⟨v2,v3,g1,g2,rfl⟩:=hh
    rw[lx,List.take_length] at g2
    exact hR _ _ ⟨v2,v3,g1,List.all_eq_true.mpr g2,rfl⟩
  rintro σ H1 ⟨v2,v3,s1,hk,rfl⟩
  rw[hk] at hq
  exact hq _ s1
theorem rz{K:PySem.W.Frag}{H0 H:Hp}:∀ {vs:List V} {rs:List (List Cell)},cF (dI K H0) H vs rs->∃ qs:List Addr,vs=qs.map V.ref
 |_,_,.nil=>⟨[],rfl⟩
 |_,_,.cons h t=>by
  obtain⟨a,rfl,_⟩:=h
  obtain⟨qs,e⟩:=rz t
  exact⟨a::qs,by rw[e];rfl⟩
theorem Rt{K:PySem.W.Frag}{H0 H:Hp}{q:Addr}{qs:List Addr}{rs:List (List Cell)}(r:cF (dI K H0) H (qs.map V.ref) rs)(nd:rs.Nodup)(nq:H q=none):lH K H0 (upd H q (.lst (qs.map V.ref))) q qs rs:=by
 have s1:=Same.put (o:=.lst (qs.map V.ref)) nq
 have at_:∀(i:Nat)(a:Addr),qs[i]?=some a->∃ p,rs[i]?=some p/\dI K H0 p (.ref a) H:=fun i a e=>r.get (by rw[List.getElem?_map,e];rfl)
 have len:qs.length=rs.length:=by have:=r.length;rwa[List.length_map] at this
 refine⟨aA,len,fun i a p h1 h2=>?_,fun a ha=>?_,?_,fun z=>?_⟩
 ·obtain⟨p',e,b,eb,_,l⟩:=at_ i a h1
  rw[h2] at e
  cases e;cases eb
  exact l.mono s1
 ·obtain⟨i,hi⟩:=List.getElem?_of_mem ha
  obtain⟨p',e,b,eb,n,l⟩:=at_ i a hi
  cases eb
  exact n
 ·rw[List.nodup_iff_pairwise_ne,List.pairwise_iff_getElem]
  intro i j hi hj hij e
  obtain⟨p,ep,rp⟩:=at_ i _ (List.getElem?_eq_getElem hi)
  obtain⟨p',ep',rp'⟩:=at_ j _ (List.getElem?_eq_getElem hj)
  rw[e] at rp
  have:=rp.det rp'
  subst this
  have h1:=(List.getElem?_eq_some_iff.mp ep)
  have h2:=(List.getElem?_eq_some_iff.mp ep')
  have:i=j:=(List.getElem_inj nd).mp (h1.2.trans h2.2.symm)
  lia
 ·obtain⟨i,hi⟩:=List.getElem?_of_mem z
  obtain⟨p',e,b,eb,n,xs,ex,_⟩:=at_ i q hi
  cases eb
  rw[ex] at nq;cases nq
def xZ(K:PySem.W.Frag)(C NC TG:Addr):Sp:=fun vs H Q E=>∃(x:Addr)(v:V)(zs:List Str)(w:Nat)(c:Cell),vs=[.ref x,v]/\fY C H x zs w/\Den K H v (ao c) /\
 (c∉aJ zs w->∀ H',Same H H'->E (.ref NC) none H')/\(c∈aJ zs w->12<(bQ zs w c).length->∀ H',Same H H'->E (.ref TG) none H') /\
 (c∈aJ zs w->(bQ zs w c).length<=12->∀(q:Addr)(qs:List Addr)(H':Hp),H q=none->Same H H'->lH K H H' q qs (gH zs w (bQ zs w c))->Q (.ref q) H')
theorem DK{f:Addr}{fd:FuncData} (F:Fun K "layings" "layings" rD f fd) (T:Txt K mg Z) (Ca:Df P w K mg base 4 "edge" ["view"] (zq K Z.View aJ)) (ur:Df P w K mg base 4 "joined" ["view","cell"] (Bu K Z.View)) (qj:Df P w K mg base 4 "demands" ["view","last"] (xY K Z.View)) (o8:Df P w K mg base 1 "may_hold" ["laying","asked"] (RD K)) :
  cu P w K mg base (CXE P w) 5 f fd ["view","cell"] (xZ K Z.View Z.NoCell Z.TooGreat):=by
 refine F.Vc g8 (fun vs H Q E h=>?_) (fun cdv A outer s H vs Q E hr h=>?_)
 ·obtain⟨x,v,zs,w,c,rfl,_⟩:=h;rfl
 ·obtain⟨x,v,zs,w,c,rfl,vt,dv,hN,hT,hq⟩:=h
  have hu:=oG hr
  have hu':=tE hr
  have hd:=Km hr
  have z6:=vt.vw.le
  have w6:=vt.vw.w6
  refine⟨_,(au (dM (RT.nox (bD (fO.or (jz (K:=K) hu')) (rv 1) (aV Ca hr rfl aU (aj (rv 0) ak)) (by rfl))) (aC (pU T.jF rfl T.oX hd (aj gU ak))) bU) (au (RS.nox (aL (i:=2) g8.nd rfl (by first|exact Or.inl rfl|exact Or.inr rfl) (aV ur hr rfl aU (aj (rv 0) (aj (rv 1) ak))))) (au (dM (RT.nox (bD lY (aK (cN (K:=K)) rfl T.cG bK (aj (rv 2) ak)) (DX T.fM rfl) (cC _))) (aC (pU T.gP rfl T.oA hd (aj gU ak))) bU) (au (RS.nox (aL (i:=3) g8.nd rfl (by first|exact Or.inl rfl|exact Or.inr rfl) (cQ (aj (cQ ak) ak)))) (au (RS.nox (bW PassesOwn.never rfl (aQ (K:=K) (rv 2)) (aR (i:=4) g8.nd rfl (by first|exact Or.inl rfl|exact Or.inr rfl)) (au (aL (i:=5) g8.nd rfl (by first|exact Or.inl rfl|exact Or.inr rfl) (aV qj hr rfl aU (aj (rv 0) (aj (rv 4) ak)))) (au (aL (i:=6) g8.nd rfl (by first|exact Or.inl rfl|exact Or.inr rfl) (bV aY (rv 3) (dW (by rfl) rfl (aQ (K:=K) (rv 3)) (fun _ _ _=>jZ) (fun _ _ _=>(bV aY (rv 0) (cQ (aj (rv 5) ak))))))) (aC (kj (i:=3) g8.nd rfl rfl (by rfl) rfl (aQ (K:=K) (rv 6)) (fun _ _ _=>(cL (j5 (aV o8 hr rfl aU (aj (rv 0) (aj (rv 6) ak)))))) (fun _ _ _=>(rv 0)))))))) (aC (RS.nox (bC (aK (Gd (K:=K) hu) rfl T.lN mV (aj (rv 3) ak)))))))))),?_⟩
  refine aD (fun σ H1=>c∈aJ zs w/\Same H H1/\σ=[some (.ref x),some v,none,none,none,none,none]) (fun R hR=>?_) ?_
  ·refine⟨_,rfl,_,rfl,x,zs,w,rfl,vt,fun eg H1 fr=>.inr (jD (dv.mono fr.same) fr.ls.den ⟨_,rfl,?_⟩)⟩
   refine fj (fun h1=>⟨by decide,hN (of_decide_eq_false (by simpa only[Bool.not_eq_true'] using h1)) H1 fr.same⟩) (fun h1=>hR _ _ ⟨of_decide_eq_true (by simpa only[Bool.not_eq_false'] using h1),fr.same,rfl⟩)
  rintro σ H1 ⟨hc,s1,rfl⟩
  have hin:=gD hc
  have pt:=Part.join z6 w6 hc
  refine aD (fun σ H2=>∃(pl:Addr)(ms:List V),Same H H2/\H2 pl=some (.lst ms)/\aN K H2 ms ((bQ zs w c).map ao)/\σ=[some (.ref x),some v,some (.ref pl),none,none,none,none]) (fun R hR=>?_) ?_
  ·refine⟨_,rfl,_,rfl,x,_,zs,w,c,rfl,vt.mono s1,dv.mono s1,hin,fun a H2 ds na s2 la as mm=>?_⟩
   have e:ds=bQ zs w c:=Ck as (jy z6 w6) fun y=>by rw[mm y,dG hin]
   rw[e] at la
   obtain⟨ms,em,Dm⟩:=la
   exact hR _ _ ⟨a,ms,s1.trans s2,em,Dm,rfl⟩
  rintro σ H2 ⟨pl,ms,s2,em,Dm,rfl⟩
  have lms:ms.length=(bQ zs w c).length:=by rw[Dm.length,List.length_map]
  refine aD (fun σ H3=>(bQ zs w c).length<=12/\H3=H2/\σ=[some (.ref x),some v,some (.ref pl),none,none,none,none]) (fun R hR=>?_) ?_
  ·refine⟨_,rfl,?_⟩
   dsimp only[je]
   refine jX (Den.lst (SqL.of em) Dm) ⟨_,_,rfl,rfl,_,rfl,?_⟩
   rw[List.length_map]
   refine fj (fun h1=>⟨by decide,hT hc (by have:=of_decide_eq_true h1;lia) H2 s2⟩) (fun h1=>hR _ _ ⟨by have:=of_decide_eq_false h1;lia,rfl,rfl⟩)
  rintro σ H3 ⟨h12,rfl,rfl⟩
  have hq':=hq hc h12
  clear hN hT hq
  generalize hps:bQ zs w c=ps at *
  refine aD (fun σ H4=>∃(bl:Addr)(bs:List V),Same H H4/\H4 pl=some (.lst ms)/\aN K H4 ms (ps.map ao)/\H4 bl=some (.lst bs)/\cF (dI K H) H4 bs (layAt (pP zs w ps) ps 0)/\σ=[some (.ref x),some v,some (.ref pl),some (.ref bl),none,none,none]) (fun R hR=>?_) ?_
  ·refine⟨by decide,fun e0 n0=>?_⟩
   dsimp only[je]
   refine⟨sz rfl,fun bl nb=>?_⟩
   have t1:=Same.put (o:=.lst []) n0
   have t2:=t1.and (o:=.lst [.ref e0]) nb
   refine hR _ _ ⟨bl,_,s2.trans t2,t2 _ _ em,Dm.mono t2,aA,.cons ⟨e0,rfl,s2.free n0,[],?_,.nil⟩ .nil,rfl⟩
   exact(Same.put nb) _ _ aA
  rintro σ H4 ⟨bl,bs,s4,em4,Dm4,eb4,rb4,rfl⟩
  refine aD (fun σ H5=>∃(bl:Addr)(bs:List V)(v4 v5 v6:Option V),Same H H5/\H5 bl=some (.lst bs)/\cF (dI K H) H5 bs (layAt (pP zs w ps) ps ps.length)/\σ=[some (.ref x),some v,some (.ref pl),some (.ref bl),v4,v5,v6]) (fun R hR=>?_) ?_
  ·refine⟨_,rfl,pl,rfl,⟨_,SqL.of em4⟩,?_⟩
   refine cX (K:=K) (xs:=ms) (fun i σ H5=>∃(bl:Addr)(bs:List V)(v4 v5 v6:Option V),Same H H5/\H5 pl=some (.lst ms)/\aN K H5 ms (ps.map ao)/\H5 bl=some (.lst bs)/\cF (dI K H) H5 bs (layAt (pP zs w ps) ps i)/\σ=[some (.ref x),some v,some (.ref pl),some (.ref bl),v4,v5,v6])
    ⟨bl,bs,none,none,none,s4,em4,Dm4,eb4,rb4,rfl⟩ (fun i σ H5 _ hh=>by obtain⟨_,_,_,_,_,_,e,_⟩:=hh;exact SqL.of e) (fun i u σ H5 hi hh=>?_) (fun σ H5 hh=>?_)
   ·obtain⟨bl,bs,v4,v5,v6,s5,em5,Dm5,eb5,rb5,rfl⟩:=hh
    obtain⟨dm,edm,du⟩:=Dm5.get hi
    rw[List.getElem?_map] at edm
    obtain⟨m,emq,rfl⟩:=Option.map_eq_some_iff.mp edm
    have him:i<ps.length:=(List.getElem?_eq_some_iff.mp emq).1
    have eD:ps.getD i (0,0)=m:=by rw[List.getD_eq_getElem?_getD,emq];rfl
    have mps:m∈ps:=List.mem_of_getElem? emq
    have lb:bs.length<=2048:=by
     rw[rb5.length]
     exact Nat.le_trans (nC _ _ _) (Nat.pow_le_pow_right (by decide) (show i<=11 by lia))
    have lay:(layAt (pP zs w ps) ps i).length<=2048:=by rw[<- rb5.length];exact lb
    refine aD (fun σ H6=>∃ aq:Addr,Same H5 H6/\Ls K H6 aq ((aH zs w m).map (zV zs w m))/\σ=[some (.ref x),some v,some (.ref pl),some (.ref bl),some u,some (.ref aq),v6]) (fun R' hR'=>?_) ?_
    ·exact⟨_,rfl,_,rfl,x,_,zs,w,m,rfl,vt.mono s5,du,(pt.cl m mps).2,fun aq H6 f6=>hR' _ _ ⟨aq,f6.same,f6.ls,rfl⟩⟩
    rintro σ H6 ⟨aq,s6,la,rfl⟩
    refine aD (fun σ H7=>∃(bb:Addr)(ws:List V),Same H6 H7/\H7 bb=some (.lst ws)/\cF (dI K H) H7 ws (layAt (pP zs w ps) ps i++(layAt (pP zs w ps) ps i).map (·++[m]))/\σ=[some (.ref x),some v,some (.ref pl),some (.ref bl),some u,some (.ref aq),some (.ref bb)]) (fun R' hR'=>?_) ?_
    ·refine⟨_,rfl,_,rfl,bl,rfl,⟨_,SqL.of (s6 _ _ eb5)⟩,?_⟩
     refine qG (dI.stays) (dI.stays (K:=K) (H0:=H)) (bf (SqL.of (s6 _ _ eb5))) (rb5.mono dI.stays s6) (small (by lia)) (fun l=>l++[m]) (fun l hl y H7 s7 ry G hG=>?_) (fun ys H7 s7 D7 n hn=>?_)
     ·obtain⟨a,rfl,na,la'⟩:=ry
      have ll:=jB _ l hl
      refine⟨_,rfl,_,rfl,?_⟩
      dsimp only[je]
      refine⟨sz rfl,fun p1 n1=>?_⟩
      have t1:=Same.put (o:=.lst [u]) n1
      refine qZ (K:=K) (la'.mono t1) (show Ls K (upd H7 p1 (.lst [u])) p1 ([m].map ao) from⟨[u],aA,.cons (du.mono ((s6.trans s7).trans t1)) .nil⟩) (by rw[List.length_map,List.length_map,List.length_singleton];lia) fun r H8 fr=>?_
      refine hG _ _ (t1.trans fr.same) ⟨r,rfl,(s5.trans ((s6.trans s7).trans t1)).free fr.new,?_⟩
      rw[List.map_append];exact fr.ls
     ·have t1:=Same.put (o:=.lst ys) hn
      refine⟨bs,ys,t1 _ _ (s7 _ _ (s6 _ _ eb5)),aA,small (by have:=D7.length;rw[List.length_map] at this;lia),fun bb nbb=>?_⟩
      have t2:=t1.and (o:=.lst (bs++ys)) nbb
      exact hR' _ _ ⟨bb,_,s7.trans t2,aA,(rb5.mono dI.stays (s6.trans (s7.trans t2))).append (D7.mono dI.stays t2),rfl⟩
    rintro σ H7 ⟨bb,ws,s7,eb7,rb7,rfl⟩
    have lw:(layAt (pP zs w ps) ps i++(layAt (pP zs w ps) ps i).map (·++[m])).length<=4096:=by rw[List.length_append,List.length_map];lia
    refine⟨_,rfl,bb,rfl,⟨_,SqL.of eb7⟩,?_⟩
    refine uJ (dI.stays) (dI.stays (K:=K) (H0:=H)) (bf (SqL.of eb7)) rb7 (small (by lia)) (fun l=>jT zs w m (aH zs w m) l) id (fun l hl y H8 s8 ry G hG=>?_) (fun l hl _ y H8 s8 ry G hG=>⟨_,rfl,hG _ _ (Same.refl _) ry⟩) (fun ys H8 s8 D8 n hn=>?_)
    ·refine⟨_,rfl,_,rfl,y,aq,zs,w,m,aH zs w m,l,rfl,ry.den,la.mono (s7.trans s8),fun H9 s9=>⟨_,rfl,hG _ s9⟩⟩
    ·have t1:=Same.put (o:=.lst ys) hn
     have sA:=(s6.trans s7).trans (s8.trans t1)
     refine⟨n,ys,_,_,_,s5.trans sA,sA _ _ em5,Dm5.mono sA,aA,?_,rfl⟩
     have e:layAt (pP zs w ps) ps (i+1)=((layAt (pP zs w ps) ps i++(layAt (pP zs w ps) ps i).map (·++[m])).filter (fun l=>jT zs w m (aH zs w m) l)).map id:=by
      rw[List.map_id]
      show(layAt (pP zs w ps) ps i++(layAt (pP zs w ps) ps i).map (·++[ps.getD i (0,0)])).filter (pP zs w ps i)=_
      unfold pP jT
      rw[eD]
     rw[e]
     exact D8.mono dI.stays t1
   ·obtain⟨bl,bs,v4,v5,v6,s5,em5,Dm5,eb5,rb5,rfl⟩:=hh
    rw[lms] at rb5
    exact hR _ _ ⟨bl,bs,v4,v5,v6,s5,eb5,rb5,rfl⟩
  rintro σ H5 ⟨bl,bs,v4,v5,v6,s5,eb5,rb5,rfl⟩
  have nd:=gn (p:=pP zs w ps) pt.nd _ (Nat.le_refl ps.length)
  refine⟨_,rfl,bl,bs,layAt (pP zs w ps) ps ps.length,rfl,SqL.of eb5,rb5.JZ fun a v h=>h.den,fun q o nq po as=>?_⟩
  have lo:∀ i∈o,i<bs.length:=fun i hi=>List.mem_range.mp (po.mem_iff.mp hi)
  have ro:=cF.by (d0:=[]) o rb5 lo
  have pd:(o.map fun i=>(layAt (pP zs w ps) ps ps.length).getD i []).Perm (layAt (pP zs w ps) ps ps.length):=nH (by rw[<- rb5.length];exact po)
  rw[pt.lays pd as] at ro
  have ndl:(gH zs w ps).Nodup:=iU.nodup_iff.mpr nd
  obtain⟨qs,eqs⟩:∃ qs:List Addr,(o.map fun i=>bs.getD i .non)=qs.map V.ref:=rz ro
  rw[eqs] at ro ⊢
  exact hq' q qs _ (s5.free nq) (s5.and nq) (Rt ro ndl nq)
end
end My
namespace My
open PySem L2
def vX(zs:List Str)(w:Nat)(ps:List Cell)(t:Cell):Dt:=.tup [.int (cg zs t),.lst ((bO zs w ps t).map ao)]
theorem JX{K:PySem.W.Frag}{H:Hp}{v:V}{zs:List Str}{wd:Nat}{ps:List Cell}{t:Cell}(h:Den K H v (vX zs wd ps t)):∃(b:Addr)(y:V),v=.ref b/\H b=some (.tup [.int (cg zs t),y])/\Den K H y (.lst ((bO zs wd ps t).map ao)):=by
 unfold vX at h
 cases h with
 |tup ht hs=>
  cases hs with
  |cons h1 hs=>
   cases hs with
   |cons h2 hs=>
    cases hs;cases h1
    exact⟨_,_,rfl,ht,h2⟩
theorem JM(xs:List V)(n:Nat):uK xs (some (n:Int)) none=xs.drop n:=by
 unfold uK
 rw[HT.mz]
 have e:HT.sIx xs.length 0 (some (n:Int))=min n xs.length:=HT.pX ..
 rw[e]
 by_cases h:n<=xs.length
 ·rw[Nat.min_eq_left h]
  exact List.take_of_length_le (by simp)
 ·rw[Nat.min_eq_right (by lia),Nat.sub_self,List.take_zero,List.drop_of_length_le (by lia)]
theorem wY{K:PySem.W.Frag}{H:Hp}:∀(n:Nat){vs:List V}{ds:List Dt},aN K H vs ds->aN K H (vs.drop n) (ds.drop n)
 |0,_,_,h=>h
 |n+1,_,_,.nil=>.nil
 |n+1,_,_,.cons h t=>wY n t
def o9(K:PySem.W.Frag)(H0:Hp)(lg:Addr)(r:List Cell)(v:V)(H:Hp):Prop:=dI K H0 r v (del lg H)
theorem o9.stays{K:PySem.W.Frag}{H0:Hp}{lg:Addr}:rP (o9 K H0 lg):=fun r v H H' s h=>dI.stays _ _ _ _ s.del h
def vW(K:PySem.W.Frag):Sp:=fun vs H Q _=>∃(p pl:Addr)(zs:List Str)(w:Nat)(ps:List Cell),vs=[.ref p,.ref pl]/\SqL K H p (zs.map V.str)/\Vw zs w/\Ls K H pl (ps.map ao)/\Part zs w ps/\ps.length<=12 /\
 ∀(q:Addr)(qs:List Addr)(H':Hp),H q=none->Same H H'->lH K H H' q qs (gH zs w ps)->Q (.ref q) H'
section
variable{P:Program}{w:World}{K:PySem.W.Frag}{mg:Str->Option Value}{base:Heap}{Z:Adr}
theorem Ax{f:Addr}{fd:FuncData} (F:Fun K "_law_layings" "_law_layings" j7 f fd) (T:Txt K mg Z) (bN:Df P w K mg base 1 "_law_sizes" ["rows"] (qd K)) (cJ:Df P w K mg base 1 "_law_cells" ["rows","signs"] (uf K)) (bH:Df P w K mg base 1 "_law_near" ["height","width","cell"] (rJ K)) :
  cu P w K mg base (CXE P w) 2 f fd ["rows","part"] (vW K):=by
 refine F.rok aM (fun vs H Q E h=>?_) (fun cdv A outer s H vs Q E hr h=>?_)
 ·obtain⟨p,pl,zs,w,ps,rfl,_⟩:=h;rfl
 ·obtain⟨p,pl,zs,wd,ps,rfl,hS,vw,lp,pt,h12,hq⟩:=h
  have hu:=oG hr
  have hu':=tE hr
  have z6:=vw.le
  have w6:=vw.w6
  refine⟨_,(au (kh (aV bN hr rfl aU (aj (rv 0) ak)) (jY rfl (bT (aR (i:=2) aM.nd rfl (by first|exact Or.inl rfl|exact Or.inr rfl)) (bT (aR (i:=3) aM.nd rfl (by first|exact Or.inl rfl|exact Or.inr rfl)) iG)))) (au (aL (i:=4) aM.nd rfl (by first|exact Or.inl rfl|exact Or.inr rfl) (cQ ak)) (au (bW PassesOwn.never rfl (aQ (K:=K) (aV cJ hr rfl aU (aj (rv 0) (aj gU ak)))) (aR (i:=5) aM.nd rfl (by first|exact Or.inl rfl|exact Or.inr rfl)) (au (kj (i:=6) aM.nd rfl rfl (by rfl) rfl (aQ (K:=K) (aV bH hr rfl aU (aj (rv 2) (aj (rv 3) (aj (rv 5) ak))))) (fun _ _ _=>(cL (bD (eV.or (nY (K:=K) hu')) (rv 0) (rv 2) (by rfl)))) (fun _ _ _=>(rv 0))) (aC (dM (bD lY (aK (cN (K:=K)) rfl T.cG bK (aj (rv 6) ak)) aF (cC _)) (aC (fP (jA (K:=K) PySem.F.plainAttrs_list PySem.F.slot_list_append PySem.F.type_list_append cO (rv 4) (aj (cZ (aj (iZ wL rfl T.Fe Cu (aj (bR (bZ (K:=K)) (bR (bZ (K:=K)) (rv 0) (bR (bZ (K:=K)) (rv 5) aF)) (bR (bZ (K:=K)) (rv 5) aF)) ak)) (aj (rv 6) ak))) ak)))) bU)))) (au (aL (i:=7) aM.nd rfl (by first|exact Or.inl rfl|exact Or.inr rfl) (cQ (aj (cQ ak) ak))) (au (bW PassesOwn.never rfl (Aj (K:=K) rfl T.lM (aj (rv 1) ak)) (jY rfl (bT (aR (i:=8) aM.nd rfl (by first|exact Or.inl rfl|exact Or.inr rfl)) (bT (aR (i:=9) aM.nd rfl (by first|exact Or.inl rfl|exact Or.inr rfl)) iG))) (au (aL (i:=10) aM.nd rfl (by first|exact Or.inl rfl|exact Or.inr rfl) (cQ ak)) (au (bW PassesOwn.never rfl (aQ (K:=K) (bV aY (rv 7) (dW (by rfl) rfl (aQ (K:=K) (rv 7)) (fun _ _ _=>jZ) (fun _ _ _=>(bV aY (rv 0) (cQ (aj (rv 10) ak))))))) (aR (i:=11) aM.nd rfl (by first|exact Or.inl rfl|exact Or.inr rfl)) (au (aL (i:=12) aM.nd rfl (by first|exact Or.inl rfl|exact Or.inr rfl) vG) (au (bW PassesOwn.never rfl (aQ (K:=K) (rv 4)) (jY rfl (bT (aR (i:=13) aM.nd rfl (by first|exact Or.inl rfl|exact Or.inr rfl)) (bT (aR (i:=6) aM.nd rfl (by first|exact Or.inl rfl|exact Or.inr rfl)) iG))) (au (aL (i:=14) aM.nd rfl (by first|exact Or.inl rfl|exact Or.inr rfl) (aK (cN (K:=K)) rfl T.cG bK (aj (dW (by rfl) rfl (aQ (K:=K) (rv 6)) (fun _ _ _=>(cL (bD (eV.or (nY (K:=K) hu')) (rv 0) (rv 12) (by rfl)))) (fun _ _ _=>(rv 0))) ak))) (au (aL (i:=15) aM.nd rfl (by first|exact Or.inl rfl|exact Or.inr rfl) (aK (cN (K:=K)) rfl T.cG bK (aj (dW (by rfl) rfl (aQ (K:=K) (rv 6)) (fun _ _ _=>(cL (bD (eV.or (nY (K:=K) hu')) (rv 0) (pN (Kr (K:=K)) (rv 2) (pR (bV aY (rv 9) aF)) pQ) (by rfl)))) (fun _ _ _=>(rv 0))) ak))) (aC (dM (mq (pW lA lA (rv 14) (rv 13) (bV aY (rv 14) (rv 15)))) (aC (aL (i:=12) aM.nd rfl (by first|exact Or.inl rfl|exact Or.inr rfl) vG)) bU))))) (aC (dM (j5 (rv 12)) (aC (fP (jA (K:=K) PySem.F.plainAttrs_list PySem.F.slot_list_append PySem.F.type_list_append cO (rv 10) (aj (rv 11) ak)))) bU))))) (aC (aL (i:=7) aM.nd rfl (by first|exact Or.inl rfl|exact Or.inr rfl) (rv 10)))))) (aC (bC (aK (Gd (K:=K) hu) rfl T.lN mV (aj (rv 7) ak))))))))),?_⟩
  obtain⟨ms,em,Dm⟩:=id lp
  have lms:ms.length=ps.length:=by rw[Dm.length,List.length_map]
  refine aD (fun σ H1=>Same H H1/\σ=[some (.ref p),some (.ref pl),some (.int zs.length),some (.int wd),none,none,none,none,none,none,none,none,none,none,none,none]) (fun R hR=>?_) ?_
  ·exact⟨_,rfl,p,zs,wd,rfl,hS,vw.toRect,fun t H' s' hT=>⟨t,_,rfl,hT,rfl,_,_,rfl,_,_,rfl,rfl,hR _ _ ⟨s',rfl⟩⟩⟩
  rintro σ H1 ⟨s1,rfl⟩
  refine aD (fun σ H2=>∃ tq:Addr,H tq=none/\Same H H2/\H2 tq=some (.lst [])/\σ=[some (.ref p),some (.ref pl),some (.int zs.length),some (.int wd),some (.ref tq),none,none,none,none,none,none,none,none,none,none,none]) (fun R hR=>?_) ?_
  ·exact⟨by decide,fun tq n=>hR _ _ ⟨tq,s1.free n,s1.and n,aA,rfl⟩⟩
  rintro σ H2 ⟨tq,ntq,s2,et2,rfl⟩
  refine aD (fun σ H3=>∃(us:List V)(v5 v6:Option V),Same H H3/\H3 tq=some (.lst us)/\aN K H3 us ((jf zs wd ps).map (vX zs wd ps))/\σ=[some (.ref p),some (.ref pl),some (.int zs.length),some (.int wd),some (.ref tq),v5,v6,none,none,none,none,none,none,none,none,none]) (fun R hR=>?_) ?_
  ·refine⟨_,rfl,p,zs,wd,"012345678",rfl,s2.seq hS,vw.toRect,fun ol H3 fr=>?_⟩
   obtain⟨os,eo,Do⟩:=fr.ls
   have los:os.length=(bx zs wd "012345678").length:=by rw[Do.length,List.length_map]
   have l36:(bx zs wd "012345678").length<=36:=Nat.le_trans (wQ _ _ _) (Nat.mul_le_mul z6 w6)
   have not:ol≠tq:=fun z=>by have:=fr.new;rw[z,et2] at this;cases this
   refine⟨ol,rfl,⟨_,SqL.of eo⟩,?_⟩
   refine cX (K:=K) (xs:=os) (fun i σ H4=>∃(us:List V)(v5 v6:Option V),Same H H4/\H4 ol=some (.lst os)/\aN K H4 os ((bx zs wd "012345678").map ao)/\H4 tq=some (.lst us)/\aN K (del tq H4) us ((((bx zs wd "012345678").take i).filter fun t=>decide (0<(bO zs wd ps t).length)).map (vX zs wd ps))/\us.length<=i/\σ=[some (.ref p),some (.ref pl),some (.int zs.length),some (.int wd),some (.ref tq),v5,v6,none,none,none,none,none,none,none,none,none])
    ⟨[],none,none,s2.trans fr.same,eo,Do,fr.same _ _ et2,.nil,Nat.le_refl _,rfl⟩ (fun i σ H4 _ hh=>by obtain⟨_,_,_,_,e,_⟩:=hh;exact SqL.of e) (fun i u σ H4 hi hh=>?_) (fun σ H4 hh=>?_)
   ·obtain⟨us,v5,v6,s4,eo4,Do4,et4,D4,lus,rfl⟩:=hh
    obtain⟨dt,edt,du⟩:=Do4.get hi
    rw[List.getElem?_map] at edt
    obtain⟨t,etq,rfl⟩:=Option.map_eq_some_iff.mp edt
    have hil:i<(bx zs wd "012345678").length:=(List.getElem?_eq_some_iff.mp etq).1
    obtain⟨tin,to⟩:=(iV vw).mp (List.mem_of_getElem? etq)
    have ln8:=cT zs.length wd t
    have tk:∀ b:Bool,decide (0<(bO zs wd ps t).length)=b->((bx zs wd "012345678").take (i+1)).filter (fun t=>decide (0<(bO zs wd ps t).length))=((bx zs wd "012345678").take i).filter (fun t=>decide (0<(bO zs wd ps t).length))++(if b=true then [t] else []):=fun b hb=>by
     rw[List.take_succ,etq,List.filter_append]
     congr 1
     show List.filter _ [t]=_
     rw[List.filter_cons,hb]
     cases b<;>rfl
    refine aD (fun σ H5=>∃ sl:Addr,Same H4 H5/\H4 sl=none/\Ls K H5 sl ((bO zs wd ps t).map ao)/\σ=[some (.ref p),some (.ref pl),some (.int zs.length),some (.int wd),some (.ref tq),some u,some (.ref sl),none,none,none,none,none,none,none,none,none]) (fun R' hR'=>?_) ?_
    ·refine⟨_,rfl,_,rfl,_,rfl,zs.length,wd,u,t,rfl,du,fun nl H5 f5=>?_⟩
     obtain⟨ns,en,Dn⟩:=f5.ls
     refine⟨nl,rfl,⟨_,SqL.of en⟩,bY (K:=K) (xs:=aZ zs.length wd t) (enc:=ao) (bf (SqL.of en)) Dn (small (by lia)) (fun y=>decide (y∈ps)) ao (fun y hy u' H6 s6 d G hG=>?_) (fun y hy _ u' H6 s6 d G hG=>⟨_,rfl,hG _ _ (Same.refl _) d⟩) (fun ys H6 s6 D6 n hn=>?_)⟩
     ·exact⟨_,rfl,_,rfl,.inr (vI d (lp.mono (s4.trans (f5.same.trans s6))).den ⟨_,rfl,hG _ (Same.refl _)⟩)⟩
     ·exact hR' _ _ ⟨n,(f5.same.trans s6).and hn,(f5.same.trans s6).free hn,.new hn D6,rfl⟩
    rintro σ H5 ⟨sl,s5,nsl,lsl,rfl⟩
    refine⟨_,rfl,?_⟩
    dsimp only[je]
    refine jX lsl.den ⟨_,_,rfl,rfl,_,rfl,?_⟩
    rw[List.length_map]
    refine fj (fun h1=>?_) (fun h1=>?_)
    ·have h1':decide (0<(bO zs wd ps t).length)=true:=decide_eq_true (by have:=of_decide_eq_true h1;lia)
     have et5:=s5 _ _ et4
     refine⟨_,rfl,.inl ⟨rfl,_,SqL.of et5⟩,?_⟩
     obtain⟨⟨a1,a2⟩,⟨a3,a4⟩⟩:=id tin
     have e1:t.1=((t.1.toNat:Nat):Int):=by lia
     have e2:t.2=((t.2.toNat:Nat):Int):=by lia
     have i1:t.1.toNat<zs.length:=by lia
     have dg:=vw.digit tin to
     have du5:=du.mono s5
     have hS5:=(s4.trans s5).seq hS
     refine⟨_,rfl,_,rfl,lZ du5 ?_⟩
     rw[e1]
     refine yZ hS5 i1 ⟨_,rfl,m8 du5 ?_⟩
     rw[e2]
     refine uc hS5 vw.toRect i1 (by lia) ?_
     dsimp only[je]
     refine⟨_,rfl,dg.1,by lia,?_⟩
     refine⟨_,rfl,sz rfl,fun tt nt=>?_⟩
     have ef:((codeAt zs (t.1.toNat,t.2.toNat):Nat):Int)-48=cg zs t:=rfl
     generalize hO:(HO.tup [V.int ((codeAt zs (t.1.toNat,t.2.toNat):Nat)-48:Int),V.ref sl])=O
     have s6:=Same.put (o:=O) nt
     refine qY (K:=K) (s6 _ _ et5) (by lia) ?_
     have sb:SameBut tq (upd H5 tt O) (upd (upd H5 tt O) tq (.lst (us++[.ref tt]))):=(SameBut.refl tq _).put
     have sH:Same H4 (upd H5 tt O):=s5.trans s6
     have ntt:tt≠tq:=fun z=>by rw[z,et5] at nt;cases nt
     have nst:sl≠tq:=fun z=>by rw[z,et4] at nsl;cases nsl
     refine⟨us++[.ref tt],_,_,sb.of (s4.trans sH) ntq,sb _ _ (sH _ _ eo4) not,sb.cells (s6 _ _ et5) (Do4.mono sH),aA,?_,by rw[List.length_append,List.length_singleton];lia,rfl⟩
     rw[tk true h1',if_pos rfl,List.map_append]
     refine(D4.mono ((sH.but tq).trans sb).del).append (.cons ?_ .nil)
     refine Den.mono sb.del ?_
     unfold vX
     refine Den.tup (xs:=[.int (cg zs t),.ref sl]) (by rw[uO ntt,aA,<- hO];rfl) (.cons (.int _) (.cons (CW (s6 _ _ et5) nst (lsl.mono s6)).den .nil))
    ·have h1':decide (0<(bO zs wd ps t).length)=false:=decide_eq_false (by have:=of_decide_eq_false h1;lia)
     refine⟨us,_,_,s4.trans s5,s5 _ _ eo4,Do4.mono s5,s5 _ _ et4,?_,by lia,rfl⟩
     rw[tk false h1',if_neg Bool.false_ne_true,List.append_nil]
     exact D4.mono s5.del
   ·obtain⟨us,v5,v6,s4,eo4,Do4,et4,D4,lus,rfl⟩:=hh
    rw[los,List.take_length] at D4
    exact hR _ _ ⟨us,v5,v6,s4,et4,D4.mono iT,rfl⟩
  rintro σ H3 ⟨us,v5,v6,s3,et3,Du3,rfl⟩
  have Xj:Ls K H3 tq ((jf zs wd ps).map (vX zs wd ps)):=⟨us,et3,Du3⟩
  have lus:us.length=(jf zs wd ps).length:=by rw[Du3.length,List.length_map]
  refine aD (fun σ H4=>∃(fl:Addr)(fs:List V),Same H3 H4/\H4 fl=some (.lst fs)/\cF (dI K H) H4 fs (layAt (pL zs wd ps) ps 0)/\σ=[some (.ref p),some (.ref pl),some (.int zs.length),some (.int wd),some (.ref tq),v5,v6,some (.ref fl),none,none,none,none,none,none,none,none]) (fun R hR=>?_) ?_
  ·refine⟨by decide,fun e0 n0=>?_⟩
   dsimp only[je]
   refine⟨sz rfl,fun bl nb=>?_⟩
   have t1:=Same.put (o:=.lst []) n0
   have t2:=t1.and (o:=.lst [.ref e0]) nb
   refine hR _ _ ⟨bl,_,t2,aA,.cons ⟨e0,rfl,s3.free n0,[],?_,.nil⟩ .nil,rfl⟩
   exact(Same.put nb) _ _ aA
  rintro σ H4 ⟨fl,fs,s4,ef4,rf4,rfl⟩
  refine aD (fun σ H5=>∃(fl:Addr)(fs:List V)(v6 v8 v9 v10 v11 v12 v13 v14 v15:Option V),Same H3 H5/\H5 fl=some (.lst fs)/\cF (dI K H) H5 fs (layAt (pL zs wd ps) ps ps.length)/\σ=[some (.ref p),some (.ref pl),some (.int zs.length),some (.int wd),some (.ref tq),v5,v6,some (.ref fl),v8,v9,v10,v11,v12,v13,v14,v15]) (fun R hR=>?_) ?_
  ·refine⟨_,rfl,pl,rfl,⟨_,SqL.of (s4 _ _ (s3 _ _ em))⟩,?_⟩
   refine Ae (K:=K) (xs:=ms) (fun i σ H5=>∃(fl:Addr)(fs:List V)(v6 v8 v9 v10 v11 v12 v13 v14 v15:Option V),Same H3 H5/\H5 fl=some (.lst fs)/\cF (dI K H) H5 fs (layAt (pL zs wd ps) ps i)/\σ=[some (.ref p),some (.ref pl),some (.int zs.length),some (.int wd),some (.ref tq),v5,v6,some (.ref fl),v8,v9,v10,v11,v12,v13,v14,v15])
    ⟨fl,fs,v6,none,none,none,none,none,none,none,none,s4,ef4,rf4,rfl⟩ (fun i σ H5 _ hh=>by obtain⟨_,_,_,_,_,_,_,_,_,_,_,g,_⟩:=hh;exact SqL.of (g _ _ (s3 _ _ em))) (fun i u σ H5 t hi hh nt=>?_) (fun σ H5 hh=>?_)
   ·obtain⟨fl,fs,v6,v8,v9,v10,v11,v12,v13,v14,v15,s5,ef5,rf5,rfl⟩:=hh
    have p5:=Same.put (o:=.tup [.int i,u]) nt
    refine⟨t,_,rfl,SqT.of aA,rfl,_,_,rfl,_,_,rfl,rfl,?_⟩
    generalize upd H5 t (.tup [.int i,u])=H6 at p5
    obtain⟨dm,edm,du0⟩:=(Dm.mono (s3.trans (s5.trans p5))).get hi
    rw[List.getElem?_map] at edm
    obtain⟨m,emq,rfl⟩:=Option.map_eq_some_iff.mp edm
    have him:i<ps.length:=(List.getElem?_eq_some_iff.mp emq).1
    have eD:ps.getD i (0,0)=m:=by rw[List.getD_eq_getElem?_getD,emq];rfl
    have s6:Same H H6:=s3.trans (s5.trans p5)
    have Xk:Ls K H6 tq ((jf zs wd ps).map (vX zs wd ps)):=Xj.mono (s5.trans p5)
    have lp6:=lp.mono s6
    have ef6:=p5 _ _ ef5
    have rf6:=rf5.mono dI.stays p5
    have sH3:Same H3 H6:=s5.trans p5
    clear s5 p5 ef5 rf5
    have lb:fs.length<=2048:=by
     rw[rf6.length]
     exact Nat.le_trans (nC _ _ _) (Nat.pow_le_pow_right (by decide) (show i<=11 by lia))
    have lay:(layAt (pL zs wd ps) ps i).length<=2048:=by rw[<- rf6.length];exact lb
    refine aD (fun σ H7=>∃ lg:Addr,H6 lg=none/\Same H6 H7/\H7 lg=some (.lst [])/\σ=[some (.ref p),some (.ref pl),some (.int zs.length),some (.int wd),some (.ref tq),v5,v6,some (.ref fl),some (.int i),some u,some (.ref lg),v11,v12,v13,v14,v15]) (fun R' hR'=>?_) ?_
    ·exact⟨by decide,fun lg n=>hR' _ _ ⟨lg,n,Same.put n,aA,rfl⟩⟩
    rintro σ H7 ⟨lg,nlg,s7,el7,rfl⟩
    have YS:H lg=none:=s6.free nlg
    have sD:rP (o9 K H lg):=o9.stays
    refine aD (fun σ H8=>∃(gs:List V)(v6 v11 v12 v13 v14 v15:Option V),Same H6 (del lg H8)/\H8 lg=some (.lst gs)/\cF (o9 K H lg) H8 gs (layAt (pL zs wd ps) ps (i+1))/\σ=[some (.ref p),some (.ref pl),some (.int zs.length),some (.int wd),some (.ref tq),v5,v6,some (.ref fl),some (.int i),some u,some (.ref lg),v11,v12,v13,v14,v15]) (fun R' hR'=>?_) ?_
    ·refine⟨_,rfl,_,rfl,fl,rfl,⟨_,SqL.of (s7 _ _ ef6)⟩,?_⟩
     have rf7:cF (o9 K H lg) H7 fs (layAt (pL zs wd ps) ps i):=cF.imp (R:=dI K H) (R':=o9 K H lg) (H:=H6) (H':=H7) (fun a v h=>dI.stays _ _ _ _ (s7.into nlg) h) rf6
     refine qG sD sD (bf (SqL.of (s7 _ _ ef6))) rf7 (small (by lia)) (fun l=>l++[m]) (fun l hl y H8 s8 ry G hG=>?_) (fun ys H8 s8 D8 n hn=>?_)
     ·obtain⟨a,rfl,na,la'⟩:=ry
      have ll:=jB _ l hl
      refine⟨_,rfl,_,rfl,?_⟩
      dsimp only[je]
      refine⟨sz rfl,fun p1 n1=>?_⟩
      have t1:=Same.put (o:=.lst [u]) n1
      refine qZ (K:=K) ((la'.mono iT).mono t1) (show Ls K (upd H8 p1 (.lst [u])) p1 ([m].map ao) from⟨[u],aA,.cons (du0.mono ((s7.trans s8).trans t1)) .nil⟩) (by rw[List.length_map,List.length_map,List.length_singleton];lia) fun r H9 fr=>?_
      have el9:=fr.same _ _ (t1 _ _ (s8 _ _ el7))
      have nr:r≠lg:=fun z=>by have:=fr.new;rw[z,t1 _ _ (s8 _ _ el7)] at this;cases this
      refine hG _ _ (t1.trans fr.same) ⟨r,rfl,(s6.trans ((s7.trans s8).trans t1)).free fr.new,CW el9 nr ?_⟩
      have:=fr.ls
      rwa[<- List.map_append] at this
     ·have t1:=Same.put (o:=.lst ys) hn
      refine⟨fs,ys,t1 _ _ (s8 _ _ (s7 _ _ ef6)),aA,small (by have:=D8.length;rw[List.length_map] at this;lia),fun bb nbb=>?_⟩
      have t2:=t1.and (o:=.lst (fs++ys)) nbb
      generalize hH:upd (upd H8 n (.lst ys)) bb (.lst (fs++ys))=H9 at t2
      have eb9:H9 bb=some (.lst (fs++ys)):=by rw[<- hH];exact aA
      have s9:Same H7 H9:=s8.trans t2
      have el9:=s9 _ _ el7
      have rb9:cF (o9 K H lg) H9 (fs++ys) (layAt (pL zs wd ps) ps i++(layAt (pL zs wd ps) ps i).map (·++[m])):=(rf7.mono sD s9).append (D8.mono sD t2)
      clear hH
      have nb:bb≠lg:=bG (H:=upd H8 n (.lst ys)) (t1 _ _ (s8 _ _ el7)) nbb |>.symm
      generalize fs++ys=ws at eb9 rb9
      generalize hbo:layAt (pL zs wd ps) ps i++(layAt (pL zs wd ps) ps i).map (·++[m])=bo at rb9
      have lbo:bo.length<=4096:=by rw[<- hbo,List.length_append,List.length_map];lia
      have lws:ws.length=bo.length:=rb9.length
      have XF:layAt (pL zs wd ps) ps (i+1)=bo.filter (pL zs wd ps i):=by
       rw[<- hbo]
       show(layAt (pL zs wd ps) ps i++(layAt (pL zs wd ps) ps i).map (·++[ps.getD i (0,0)])).filter (pL zs wd ps i)=_
       rw[eD]
      refine⟨bb,rfl,⟨_,SqL.of eb9⟩,?_⟩
      refine cX (K:=K) (xs:=ws) (fun j σ H10=>∃(gs:List V)(v6 v11 v12 v13 v14 v15:Option V),Same H6 (del lg H10)/\H10 lg=some (.lst gs)/\H10 bb=some (.lst ws)/\cF (o9 K H lg) H10 ws bo/\cF (o9 K H lg) H10 gs ((bo.take j).filter (pL zs wd ps i))/\gs.length<=j/\σ=[some (.ref p),some (.ref pl),some (.int zs.length),some (.int wd),some (.ref tq),v5,v6,some (.ref fl),some (.int i),some u,some (.ref lg),v11,v12,v13,v14,v15])
       ⟨[],v6,v11,v12,v13,v14,v15,(s7.trans s9).into nlg,el9,eb9,rb9,.nil,Nat.le_refl _,rfl⟩ (fun j σ H10 _ hh=>by obtain⟨_,_,_,_,_,_,_,_,_,e,_⟩:=hh;exact SqL.of e) (fun j y σ H10 hj hh=>?_) (fun σ H10 hh=>?_)
      ·obtain⟨gs,v6,v11,v12,v13,v14,v15,s10,SJ,Sy,QL,Mq,Y8,rfl⟩:=hh
       obtain⟨l,elq,ry⟩:=QL.get hj
       have hjb:j<bo.length:=(List.getElem?_eq_some_iff.mp elq).1
       have tk:∀ b:Bool,pL zs wd ps i l=b->(bo.take (j+1)).filter (pL zs wd ps i)=(bo.take j).filter (pL zs wd ps i)++(if b=true then [l] else []):=fun b hb=>by
        rw[List.take_succ,elq,List.filter_append]
        congr 1
        show List.filter _ [l]=_
        rw[List.filter_cons,hb]
        cases b<;>rfl
       have sB:Same H6 H10:=s10.trans iT
       refine aD (fun σ H11=>H11=H10/\σ=[some (.ref p),some (.ref pl),some (.int zs.length),some (.int wd),some (.ref tq),v5,v6,some (.ref fl),some (.int i),some u,some (.ref lg),some y,some (.bl true),v13,v14,v15]) (fun R2 hR2=>hR2 _ _ ⟨rfl,rfl⟩) ?_
       rintro σ H11 ⟨rfl,rfl⟩
       refine aD (fun σ H12=>∃ v6 v13 v14 v15:Option V,Same H11 H12/\σ=[some (.ref p),some (.ref pl),some (.int zs.length),some (.int wd),some (.ref tq),v5,v6,some (.ref fl),some (.int i),some u,some (.ref lg),some y,some (.bl (pL zs wd ps i l)),v13,v14,v15]) (fun R2 hR2=>?_) ?_
       ·obtain⟨us',et6,Du6⟩:=Xk.mono sB
        have Y9:us'.length=(jf zs wd ps).length:=by rw[Du6.length,List.length_map]
        refine⟨_,rfl,tq,rfl,⟨_,SqL.of et6⟩,?_⟩
        refine cX (K:=K) (xs:=us') (fun q σ H12=>∃ v6 v13 v14 v15:Option V,Same H11 H12/\σ=[some (.ref p),some (.ref pl),some (.int zs.length),some (.int wd),some (.ref tq),v5,v6,some (.ref fl),some (.int i),some u,some (.ref lg),some y,some (.bl (((jf zs wd ps).take q).all fun t=>dZ (bO zs wd ps t) (cg zs t) (gJ (bO zs wd ps t) ps i) l)),v13,v14,v15])
         ⟨v6,v13,v14,v15,Same.refl _,rfl⟩ (fun q σ H12 _ hh=>by obtain⟨_,_,_,_,g,_⟩:=hh;exact SqL.of (g _ _ et6)) (fun q z σ H12 hq' hh=>?_) (fun σ H12 hh=>?_)
        ·obtain⟨v6,v13,v14,v15,s12,rfl⟩:=hh
         obtain⟨dt,edt,dz⟩:=Du6.get hq'
         rw[List.getElem?_map] at edt
         obtain⟨tc,etc,rfl⟩:=Option.map_eq_some_iff.mp edt
         obtain⟨b,sm,rfl,eb,dsm⟩:=JX (dz.mono s12)
         have tkt:(((jf zs wd ps).take (q+1)).all fun t=>dZ (bO zs wd ps t) (cg zs t) (gJ (bO zs wd ps t) ps i) l)=((((jf zs wd ps).take q).all fun t=>dZ (bO zs wd ps t) (cg zs t) (gJ (bO zs wd ps t) ps i) l)&&dZ (bO zs wd ps tc) (cg zs tc) (gJ (bO zs wd ps tc) ps i) l):=by
          rw[List.take_succ,etc,List.all_append]
          congr 1
          show List.all [tc] _=_
          rw[List.all_cons,List.all_nil,Bool.and_true]
         obtain⟨sa,rfl⟩:∃ a,sm=.ref a:=by cases dsm;exact⟨_,rfl⟩
         have ls8:(bO zs wd ps tc).length<=8:=Nat.le_trans (List.length_filter_le _ _) (cT _ _ _)
         refine⟨b,_,rfl,SqT.of eb,rfl,_,_,rfl,_,_,rfl,rfl,?_⟩
         refine aD (fun σ H13=>Same H12 H13/\σ=[some (.ref p),some (.ref pl),some (.int zs.length),some (.int wd),some (.ref tq),v5,some (.ref sa),some (.ref fl),some (.int i),some u,some (.ref lg),some y,some (.bl (((jf zs wd ps).take q).all fun t=>dZ (bO zs wd ps t) (cg zs t) (gJ (bO zs wd ps t) ps i) l)),some (.int (cg zs tc)),some (.int (jt (bO zs wd ps tc) l)),v15]) (fun R3 hR3=>?_) ?_
         ·cases dsm with
          |lst hy Dy=>
           refine⟨_,rfl,sa,rfl,⟨_,hy⟩,bY (K:=K) (xs:=bO zs wd ps tc) (enc:=ao) (bf hy) Dy (small (by lia)) (fun y=>decide (y∈l)) ao (fun o ho u' H14 s14 d G hG=>?_) (fun o ho _ u' H14 s14 d G hG=>⟨_,rfl,hG _ _ (Same.refl _) d⟩) (fun ys H14 s14 D14 n hn=>?_)⟩
           ·obtain⟨ra,rfl,_,lr⟩:=ry
            exact⟨_,rfl,_,rfl,.inr (vI d ((lr.mono iT).mono (s12.trans s14)).den ⟨_,rfl,hG _ (Same.refl _)⟩)⟩
           ·dsimp only[je]
            refine jX (Ls.new hn D14).den ?_
            rw[List.length_map]
            exact hR3 _ _ ⟨s14.and hn,rfl⟩
         rintro σ H13 ⟨s13,rfl⟩
         refine aD (fun σ H14=>Same H13 H14/\σ=[some (.ref p),some (.ref pl),some (.int zs.length),some (.int wd),some (.ref tq),v5,some (.ref sa),some (.ref fl),some (.int i),some u,some (.ref lg),some y,some (.bl (((jf zs wd ps).take q).all fun t=>dZ (bO zs wd ps t) (cg zs t) (gJ (bO zs wd ps t) ps i) l)),some (.int (cg zs tc)),some (.int (jt (bO zs wd ps tc) l)),some (.int (gJ (bO zs wd ps tc) ps i))]) (fun R3 hR3=>?_) ?_
         ·have VL:=dsm.mono s13
          cases VL with
          |lst hy Dy=>
           refine⟨_,rfl,sa,rfl,⟨_,hy⟩,bY (K:=K) (xs:=bO zs wd ps tc) (enc:=ao) (bf hy) Dy (small (by lia)) (fun y=>decide (y∈ps.drop (i+1))) ao (fun o ho u' H14 s14 d G hG=>?_) (fun o ho _ u' H14 s14 d G hG=>⟨_,rfl,hG _ _ (Same.refl _) d⟩) (fun ys H14 s14 D14 n hn=>?_)⟩
           ·obtain⟨ms',em',Dm'⟩:=lp6.mono (sB.trans (s12.trans (s13.trans s14)))
            refine⟨_,rfl,_,rfl,_,rfl,_,rfl,.inl ⟨pl,_,rfl,SqL.of em',fun cp ncp=>?_⟩⟩
            have ei:((i:Int)+1)=((i+1:Nat):Int):=by lia
            rw[ei,JM]
            have t1:=Same.put (o:=.lst (ms'.drop (i+1))) ncp
            refine .inr (vI (d.mono t1) (cs:=ps.drop (i+1)) ?_ ⟨_,rfl,hG _ t1⟩)
            refine Den.lst (SqL.of aA) (aN.mono t1 ?_)
            rw[List.map_drop]
            exact wY (i+1) Dm'
           ·dsimp only[je]
            refine jX (Ls.new hn D14).den ?_
            rw[List.length_map]
            exact hR3 _ _ ⟨s14.and hn,rfl⟩
         rintro σ H14 ⟨s14,rfl⟩
         have sE:Same H11 H14:=s12.trans (s13.trans s14)
         have fin:∀ b:Bool,b=(((jf zs wd ps).take (q+1)).all fun t=>dZ (bO zs wd ps t) (cg zs t) (gJ (bO zs wd ps t) ps i) l)->∃ v6 v13 v14 v15:Option V,Same H11 H14/\[some (.ref p),some (.ref pl),some (.int zs.length),some (.int wd),some (.ref tq),v5,some (.ref sa),some (.ref fl),some (.int i),some u,some (.ref lg),some y,some (.bl b),some (.int (cg zs tc)),some (.int (jt (bO zs wd ps tc) l)),some (.int (gJ (bO zs wd ps tc) ps i))]=[some (.ref p),some (.ref pl),some (.int zs.length),some (.int wd),some (.ref tq),v5,v6,some (.ref fl),some (.int i),some u,some (.ref lg),some y,some (V.bl (((jf zs wd ps).take (q+1)).all fun t=>dZ (bO zs wd ps t) (cg zs t) (gJ (bO zs wd ps t) ps i) l)),v13,v14,v15]:=fun b hb=>by subst hb;exact⟨_,_,_,_,sE,rfl⟩
         refine⟨_,rfl,_,rfl,_,_,rfl,rfl,_,rfl,?_⟩
         refine fj (fun h1=>?_) (fun h1=>?_)
         ·refine⟨_,rfl,_,rfl,_,_,rfl,rfl,_,rfl,?_⟩
          refine fj (fun h2=>?_) (fun h2=>?_)
          ·refine fin false ?_
           rw[tkt]
           unfold dZ
           rw[show decide (cg zs tc<=(jt (bO zs wd ps tc) l:Int)+(gJ (bO zs wd ps tc) ps i:Int))=false by simpa only[Bool.not_eq_true'] using h2,Bool.and_false,Bool.and_false]
          ·refine fin _ ?_
           rw[tkt]
           unfold dZ
           rw[h1,show decide (cg zs tc<=(jt (bO zs wd ps tc) l:Int)+(gJ (bO zs wd ps tc) ps i:Int))=true by simpa only[Bool.not_eq_false'] using h2]
           exact(Bool.and_true _).symm
         ·refine⟨_,rfl,tH ?_⟩
          refine fin false ?_
          rw[tkt]
          unfold dZ
          rw[h1,Bool.false_and,Bool.and_false]
        ·obtain⟨v6,v13,v14,v15,s12,rfl⟩:=hh
         rw[Y9,List.take_length]
         exact hR2 _ _ ⟨v6,v13,v14,v15,s12,rfl⟩
       rintro σ H12 ⟨v6,v13,v14,v15,s12,rfl⟩
       have SM:=s12 _ _ SJ
       refine⟨_,rfl,_,rfl,?_⟩
       refine fj (fun h1=>?_) (fun h1=>?_)
       ·refine⟨_,rfl,.inl ⟨rfl,_,SqL.of SM⟩,_,rfl,?_⟩
        dsimp only[je]
        refine qY (K:=K) SM (by lia) ?_
        have sb:SameBut lg H12 (upd H12 lg (.lst (gs++[y]))):=(SameBut.refl lg _).put
        have sd:Same (del lg H11) (del lg (upd H12 lg (.lst (gs++[y])))):=(s12.del).trans sb.del
        have mv:∀ {vs:List V} {rs:List (List Cell)},cF (o9 K H lg) H11 vs rs->cF (o9 K H lg) (upd H12 lg (.lst (gs++[y]))) vs rs:=fun r=>cF.imp (R:=o9 K H lg) (R':=o9 K H lg) (H:=H11) (fun a v h=>dI.stays _ _ _ _ sd h) r
        refine⟨gs++[y],_,_,_,_,_,_,s10.trans sd,aA,sb _ _ (s12 _ _ Sy) nb,mv QL,?_,by rw[List.length_append,List.length_singleton];lia,rfl⟩
        rw[tk true h1,if_pos rfl]
        exact(mv Mq).append (.cons (dI.stays _ _ _ _ sd ry) .nil)
       ·refine⟨gs,_,_,_,_,_,_,s10.trans s12.del,SM,s12 _ _ Sy,QL.mono sD s12,?_,by lia,rfl⟩
        rw[tk false h1,if_neg Bool.false_ne_true,List.append_nil]
        exact Mq.mono sD s12
      ·obtain⟨gs,v6,v11,v12,v13,v14,v15,s10,SJ,Sy,QL,Mq,Y8,rfl⟩:=hh
       rw[lws,List.take_length,<- XF] at Mq
       exact hR' _ _ ⟨gs,v6,v11,v12,v13,v14,v15,s10,SJ,Mq,rfl⟩
    rintro σ H8 ⟨gs,v6,v11,v12,v13,v14,v15,s8,el8,rg8,rfl⟩
    refine⟨_,rfl,?_⟩
    exact⟨lg,gs,_,_,_,_,_,_,_,_,_,sH3.trans (s8.trans iT),el8,cF.imp (R:=o9 K H lg) (R':=dI K H) (H:=H8) (H':=H8) (fun a v h=>dI.stays _ _ _ _ iT h) rg8,rfl⟩
   ·obtain⟨fl,fs,v6,v8,v9,v10,v11,v12,v13,v14,v15,s5,ef5,rf5,rfl⟩:=hh
    rw[lms] at rf5
    exact hR _ _ ⟨fl,fs,v6,v8,v9,v10,v11,v12,v13,v14,v15,s5,ef5,rf5,rfl⟩
  rintro σ H5 ⟨fl,fs,v6,v8,v9,v10,v11,v12,v13,v14,v15,s5,ef5,rf5,rfl⟩
  have nd:=gn (p:=pL zs wd ps) pt.nd _ (Nat.le_refl ps.length)
  refine⟨_,rfl,fl,fs,layAt (pL zs wd ps) ps ps.length,rfl,SqL.of ef5,rf5.JZ fun a v h=>h.den,fun q o nq po as=>?_⟩
  have lo:∀ i∈o,i<fs.length:=fun i hi=>List.mem_range.mp (po.mem_iff.mp hi)
  have ro:=cF.by (d0:=[]) o rf5 lo
  have pd:(o.map fun i=>(layAt (pL zs wd ps) ps ps.length).getD i []).Perm (layAt (pL zs wd ps) ps ps.length):=nH (by rw[<- rf5.length];exact po)
  rw[pt.Pn vw pd as] at ro
  have ndl:(gH zs wd ps).Nodup:=iU.nodup_iff.mpr (gn pt.nd _ (Nat.le_refl _))
  obtain⟨qs,eqs⟩:∃ qs:List Addr,(o.map fun i=>fs.getD i .non)=qs.map V.ref:=rz ro
  rw[eqs] at ro ⊢
  exact hq q qs _ ((s3.trans s5).free nq) ((s3.trans s5).and nq) (Rt ro ndl nq)
end
end My
namespace My
open PySem L2
def Nk(K:PySem.W.Frag)(C:Addr):Sp:=fun vs H Q _=>∃(x:Addr)(v:V)(zs:List Str)(w:Nat)(c:Cell),vs=[.ref x,v]/\fY C H x zs w/\Den K H v (ao c) /\
 (c∉aJ zs w->∀(t:Addr)(H':Hp),Same H H'->H' t=some (.tup [.int 1,.bl true])->Q (.ref t) H')/\(c∈aJ zs w->12<(bQ zs w c).length->∀(t:Addr)(H':Hp),Same H H'->H' t=some (.tup [.int 2,.bl true])->Q (.ref t) H') /\
 (c∈aJ zs w->(bQ zs w c).length<=12->∀(q:Addr)(qs:List Addr)(H':Hp),H q=none->Same H H'->lH K H H' q qs (gH zs w (bQ zs w c))->Q (.ref q) H')
section
variable{P:Program}{w:World}{K:PySem.W.Frag}{mg:Str->Option Value}{base:Heap}{Z:Adr}
theorem PN{f:Addr}{fd:FuncData} (F:Fun K "_law_met" "_law_met" oO f fd) (T:Txt K mg Z) (qp:Df P w K mg base 5 "layings" ["view","cell"] (xZ K Z.View Z.NoCell Z.TooGreat)):cu P w K mg base (CXE P w) 6 f fd ["view","cell"] (Nk K Z.View):=by
 refine F.rok mJ (fun vs H Q E h=>?_) (fun cdv A outer s H vs Q E hr h=>?_)
 ·obtain⟨x,v,zs,w,c,rfl,_⟩:=h;rfl
 ·obtain⟨x,v,zs,w,c,rfl,vt,dv,q1,q2,q3⟩:=h
  refine⟨_,(aC (Vd rfl rfl (QT (Vf qp hr rfl (aj (rv 0) (aj (rv 1) ak)))) (GC (i:=2) rfl mJ.nd rfl rfl rfl T.oX T.jF (fun _=>(aC (bC (cZ (aj aF (aj (aK (vd (K:=K)) rfl T.fK fV (aj (rv 2) (aj (Rx T.jN rfl) ak))) ak)))))) (GC (i:=2) rfl mJ.nd rfl rfl rfl T.oA T.gP (fun _=>(aC (bC (cZ (aj aF (aj (aK (vd (K:=K)) rfl T.fK fV (aj (rv 2) (aj (Rx T.jN rfl) ak))) ak)))))) Va)))),?_⟩
  refine⟨_,rfl,_,rfl,x,v,zs,w,c,rfl,vt,dv,fun hc H' s'=>?_,fun hc hl H' s'=>?_,q3⟩
  ·refine⟨Z.NoCell,rfl,.inl ⟨rfl,fun ea hea=>?_⟩⟩
   have s8:=Same.put (o:=Ce ea Z.NoCell) hea
   refine⟨_,rfl,.inl ⟨_,_,_,rfl,rfl,.inr ⟨ea,Z.NoCell,rfl,aA,T.Qz,?_⟩⟩⟩
   exact⟨sz rfl,fun q hq=>q1 hc q _ (s'.trans (s8.and hq)) aA⟩
  ·obtain⟨m1,m2,m3⟩:=Px T.gP T.QC
   refine⟨Z.TooGreat,rfl,.inr ⟨m1,m2,m3,.inl ⟨rfl,fun ea hea=>?_⟩⟩⟩
   have s8:=Same.put (o:=Ce ea Z.TooGreat) hea
   refine⟨_,rfl,.inl ⟨_,_,_,rfl,rfl,.inr ⟨ea,Z.TooGreat,rfl,aA,T.QB,?_⟩⟩⟩
   exact⟨sz rfl,fun q hq=>q2 hc hl q _ (s'.trans (s8.and hq)) aA⟩
end
end My
namespace My
open PySem L2
def GP(K:PySem.W.Frag):Sp:=fun vs H Q _=>∃(a:Addr)(ns:List Int),vs=[.ref a]/\SqL K H a (ns.map V.int)/\∀ H',Q (.bl true) H'
theorem xg:∀ ls:List (List Cell),iy (ls.map oN)<=2
 |[]=>Nat.le_of_ble_eq_true rfl
 |l::ls=>by
  show max (iy (l.map ao)+1) (iy (ls.map oN))<=2
  exact Nat.max_le.mpr ⟨by have:=uQ l;lia,xg ls⟩
theorem K4(ls:List (List Cell)):lB (.lst (ls.map oN))<=50:=by
 show iy (ls.map oN)+1<=50
 have:=xg ls
 lia
def vwB(zs:List Str):Bool:=zs.all fun z=>z.length==5&&z.cps.toList.all mL
theorem R7:∀ d0∈[35,48,49,50,51],∀ c1∈[48,49,50,51],∀ c2∈[48,49,50,51],vwB [("####" : Str)++⟨#[d0]⟩,((("#" : Str)++⟨#[c1]⟩) ++ "#" ++ ⟨#[c2]⟩) ++ "#","#####"]=true:=by decide +kernel
theorem Vq{d0 c1 c2:Nat}(h0:d0∈[35,48,49,50,51])(h1:c1∈[48,49,50,51])(h2:c2∈[48,49,50,51]):Vw [("####" : Str)++⟨#[d0]⟩,((("#" : Str)++⟨#[c1]⟩) ++ "#" ++ ⟨#[c2]⟩) ++ "#","#####"] 5:=by
 have h:=List.all_eq_true.mp (R7 d0 h0 c1 h1 c2 h2)
 refine⟨⟨(by show 1<=3;decide),(by show 3<=6;decide),by decide,by decide,fun z hz=>?_⟩,fun z hz c hc=>?_⟩
 ·exact beq_iff_eq.mp (Bool.and_eq_true_iff.mp (h z hz)).1
 ·exact List.all_eq_true.mp (Bool.and_eq_true_iff.mp (h z hz)).2 c hc
theorem qW{zs:List Str}{w:Nat}:∀(cs:List Cell)(ps:List (List Cell)),(fB zs w cs ps).length<=ps.length+cs.length
 |[],ps=>by unfold fB;exact Nat.le_refl _
 |c::cs,ps=>by
  unfold fB
  split
  ·have:=qW (zs:=zs) (w:=w) cs ps
   rw[List.length_cons];lia
  ·have:=qW (zs:=zs) (w:=w) cs (ps++[bQ zs w c])
   rw[List.length_append,List.length_singleton] at this
   rw[List.length_cons];lia
section
variable{P:Program}{w:World}{K:PySem.W.Frag}{mg:Str->Option Value}{base:Heap}{Z:Adr}
theorem TX{f:Addr}{fd:FuncData} (F:Fun K "law" "law" Mz f fd) (T:Txt K mg Z) (aP:Df P w K mg base 1 "_law_cell_at" ["script","k"] (vV K)) (bB:Df P w K mg base 1 "_law_mix" ["cell","k","many"] Bw)
  (iQ:Df P w K mg base 4 "_law_view_by" ["script","most","steps"] (BJ K)) (gW:Df P w K mg base 2 "_law_wrong_by" ["script","rows"] (GR K)) (Cg:Md P w K mg base 3 "View" ["self","rows"] Z.View (Nj K Z.View Z.BadView)) (bN:Df P w K mg base 1 "_law_sizes" ["rows"] (qd K)) (gb:Df P w K mg base 2 "_law_edge" ["rows"] (En K))
  (jG:Df P w K mg base 3 "_law_parts" ["rows"] (Bv K)) (iM:Df P w K mg base 2 "_law_layings" ["rows","part"] (vW K)) (o7:Df P w K mg base 6 "_law_met" ["view","cell"] (Nk K Z.View)) :
  cu P w K mg base (CXE P w) 7 f fd ["script"] (GP K):=by
 refine F.rok eY (fun vs H Q E h=>?_) (fun cdv A outer s H vs Q E hr h=>?_)
 ·obtain⟨a,ns,rfl,_⟩:=h;rfl
 ·obtain⟨a,ns,rfl,hS,hq⟩:=h
  have hu:=oG hr
  have hu':=tE hr
  refine⟨_,(au (aL (i:=1) eY.nd rfl (by first|exact Or.inl rfl|exact Or.inr rfl) (aV gW hr rfl aU (aj (rv 0) (aj (bR (bZ (K:=K)) (aV iQ hr rfl aU (aj (rv 0) (aj (bR (bZ (K:=K)) (cQ (aj aF (aj aF (aj aF ak)))) (bV iY (aV aP hr rfl aU (aj (rv 0) (aj aF ak))) aF)) (aj aF ak)))) aF) ak)))) (au (dM (bD (sI.or (rW (K:=K) hu)) (bV iY (aV aP hr rfl aU (aj (rv 0) (aj aF ak))) aF) aF (cC _)) (au (kj (i:=2) eY.nd rfl rfl (by rfl) rfl (cP rfl T.dw (aj aF ak)) (fun _ _ _=>jZ) (fun _ _ _=>(bR (bZ (K:=K)) gU (aV bB hr rfl aU (aj (aV aP hr rfl aU (aj (rv 1) (aj aF ak))) (aj (rv 0) (aj (bR (bZ (K:=K)) (cQ (aj aF (aj aF (aj aF ak)))) (rv 0)) ak))))))) (au (kh (bR (bZ (K:=K)) (cQ (aj (bR (bZ (K:=K)) (rv 2) aF) (aj gU ak))) (bV iY (aV aP hr rfl aU (aj (rv 0) (aj aF ak))) aF)) (z9 (rv 2) aF set_list)) (aC (aL (i:=1) eY.nd rfl (by first|exact Or.inl rfl|exact Or.inr rfl) (cQ (aj (bV aY gU (bR (bZ (K:=K)) (rv 2) aF)) (aj (bV aY (bV aY (bV aY (bV aY gU (bR (bZ (K:=K)) (rv 2) aF)) gU) (bR (bZ (K:=K)) (rv 2) aF)) gU) (aj gU ak)))))))) bU) (au (aL (i:=3) eY.nd rfl (by first|exact Or.inl rfl|exact Or.inr rfl) (V5 Cg hr rfl aU (aj (iZ (Kq (K:=K)) rfl T.uD tM (aj (rv 1) ak)) ak))) (au (kh (aV bN hr rfl aU (aj (rv 1) ak)) (jY rfl (bT (aR (i:=4) eY.nd rfl (by first|exact Or.inl rfl|exact Or.inr rfl)) (bT (aR (i:=5) eY.nd rfl (by first|exact Or.inl rfl|exact Or.inr rfl)) iG)))) (au (aL (i:=6) eY.nd rfl (by first|exact Or.inl rfl|exact Or.inr rfl) (aV aP hr rfl aU (aj (rv 0) (aj aF ak)))) (au (aL (i:=7) eY.nd rfl (by first|exact Or.inl rfl|exact Or.inr rfl) (cZ (aj (aV bB hr rfl aU (aj (rv 6) (aj aF (aj (bV aY (rv 4) aF) ak)))) (aj (aV bB hr rfl aU (aj (rv 6) (aj aF (aj (rv 5) ak)))) ak)))) (au (aL (i:=8) eY.nd rfl (by first|exact Or.inl rfl|exact Or.inr rfl) (aV gb hr rfl aU (aj (rv 1) ak))) (au (dM (Jh (yX (bD lY (bV iY (rv 6) aF) aF (cC _)) (tZ (bD lY (aK (cN (K:=K)) rfl T.cG bK (aj (rv 8) ak)) aF (cC _))))) (aC (aL (i:=7) eY.nd rfl (by first|exact Or.inl rfl|exact Or.inr rfl) (bR (bZ (K:=K)) (rv 8) (aV bB hr rfl aU (aj (rv 6) (aj aF (aj (aK (cN (K:=K)) rfl T.cG bK (aj (rv 8) ak)) ak))))))) bU) (au (kj (i:=9) eY.nd rfl rfl (by rfl) rfl (aQ (K:=K) (aV jG hr rfl aU (aj (rv 1) ak))) (fun _ _ _=>(cL (bD (eV.or (nY (K:=K) hu')) (rv 8) (rv 0) (by rfl)))) (fun _ _ _=>(rv 0))) (au (aL (i:=10) eY.nd rfl (by first|exact Or.inl rfl|exact Or.inr rfl) (cZ (aj aF (aj vG ak)))) (au (dM (Jh (yX (bD lY (aK (cN (K:=K)) rfl T.cG bK (aj (rv 9) ak)) aF (cC _)) (tZ (bD lY (aK (cN (K:=K)) rfl T.cG bK (aj (bR (bZ (K:=K)) (rv 9) aF) ak)) aF (cC _))))) (aC (aL (i:=10) eY.nd rfl (by first|exact Or.inl rfl|exact Or.inr rfl) (cZ (aj aF (aj vG ak))))) (aC (dM (bD lY (aK (cN (K:=K)) rfl T.cG bK (aj (rv 9) ak)) aF (cC _)) (aC (aL (i:=10) eY.nd rfl (by first|exact Or.inl rfl|exact Or.inr rfl) (aV iM hr rfl aU (aj (rv 1) (aj (bR (bZ (K:=K)) (rv 9) aF) ak))))) bU))) (au (bW PassesOwn.never rfl (cP rfl T.dw (aj aF ak)) (aR (i:=11) eY.nd rfl (by first|exact Or.inl rfl|exact Or.inr rfl)) (au (aL (i:=12) eY.nd rfl (by first|exact Or.inl rfl|exact Or.inr rfl) (aV o7 hr rfl aU (aj (rv 3) (aj (rv 7) ak)))) (aC (dM (j5 (aK (vd (K:=K)) rfl T.fK fV (aj (rv 10) (aj (V6 T.Fi rfl JF) ak)))) (aC (dM (bD (Gq.or (Gb (K:=K) hu)) (rv 12) (rv 10) (cC _)) (aC (bC vG)) bU)) (aC (dM (Jh (Mj (mq (j5 (aK (vd (K:=K)) rfl T.fK fV (aj (rv 12) (aj (V6 T.uD rfl tM) ak))))) (Mj (mq (j5 (aK (k_all (K:=K) rfl) rfl T.Fd Cr (aj (dW (by rfl) rfl (aQ (K:=K) (rv 12)) (fun _ _ _=>jZ) (fun _ _ _=>(aK (vd (K:=K)) rfl T.fK fV (aj (rv 0) (aj (V6 T.uD rfl tM) ak))))) ak)))) (Ml (bD (Gq.or (Gb (K:=K) hu)) (rv 12) (rv 10) (cC _)))))) (aC (bC vG)) (au (bW PassesOwn.never rfl (aQ (K:=K) (rv 12)) (aR (i:=13) eY.nd rfl (by first|exact Or.inl rfl|exact Or.inr rfl)) (aC (fP (jA (K:=K) PySem.F.plainAttrs_list PySem.F.slot_list_append PySem.F.type_list_append cO (rv 13) (aj (cZ (aj aF (aj aF ak))) ak))))) (aC (fP (jA (K:=K) PySem.F.plainAttrs_list PySem.F.slot_list_append PySem.F.type_list_append cO (rv 12) (aj (cQ ak) ak))))))))))) (aC (bC (Bf (sI.or (rW (K:=K) hu)) (jU (K:=K) (rv 3)) (rv 1) (cC _)))))))))))))))),?_⟩
  refine aD (fun σ H1=>∃(p:Addr)(zs:List Str)(w:Nat),Same H H1/\H1 p=some (.lst (zs.map V.str))/\Vw zs w/\σ=[some (.ref a),some (.ref p),none,none,none,none,none,none,none,none,none,none,none,none]) (fun R hR=>?_) ?_
  ·refine⟨_,rfl,_,rfl,?_⟩
   refine⟨sz rfl,fun l hl=>?_⟩
   have t1:=Same.put (o:=.lst [V.int 4,V.int 4,V.int 5]) hl
   refine⟨_,rfl,a,ns,20,rfl,by decide,t1.seq hS,fun r0=>⟨_,_,rfl,rfl,(by show(0:Int)<3;decide),?_⟩⟩
   have b0:0<=r0%3:=Int.emod_nonneg _ (by decide)
   have b1:r0%3<3:=Int.emod_lt_of_pos _ (by decide)
   obtain⟨v,hv,e⟩:=ou (xs:=([4,4,5]:List Int).map V.int) (i:=r0%3) b0 (by simpa using b1)
   obtain⟨n,hn,rfl⟩:=List.mem_map.mp hv
   have n6:1<=n/\n<=6:=(by decide:∀ x∈([4,4,5]:List Int),1<=x/\x<=6) n hn
   refine .inl ⟨l,_,_,_,rfl,rfl,SqL.of aA,e,?_⟩
   refine⟨a,ns,n,4,rfl,t1.seq hS,n6.1,n6.2,by decide,by decide,fun t r p H1 h w st kn s1 nr np ht hr' hls h1 h6 w1 w6 sub nd kk=>?_⟩
   refine .inr (.inl ⟨t,_,_,_,rfl,rfl,ht,cW,?_⟩)
   refine⟨a,r,ns,_,w,rfl,(t1.trans s1).seq hS,hr',N7 h1 (by lia) w1 (by lia),fun q zs' H2 s2 hq2 vw e=>?_⟩
   exact hR _ _ ⟨q,zs',w,t1.trans (s1.trans s2),hq2,vw,rfl⟩
  rintro σ H0 ⟨p,zs,w,s0,hp0,vw0,rfl⟩
  refine aD (fun σ H1=>∃(p:Addr)(zs:List Str)(w:Nat)(v2:Option V),Same H H1/\H1 p=some (.lst (zs.map V.str))/\Vw zs w/\σ=[some (.ref a),some (.ref p),v2,none,none,none,none,none,none,none,none,none,none,none]) (fun R hR=>?_) ?_
  ·refine⟨_,rfl,a,ns,20,rfl,by decide,s0.seq hS,fun r0=>⟨_,_,rfl,rfl,(by show(0:Int)<6;decide),.inl ⟨rfl,_,rfl,?_⟩⟩⟩
   refine fj (fun _=>?_) (fun _=>hR _ _ ⟨p,zs,w,none,s0,hp0,vw0,rfl⟩)
   refine aD (fun σ H2=>∃(sg:Addr)(c0 c1 c2:Nat),H sg=none/\Same H H2/\c0∈[48,49,50,51]/\c1∈[48,49,50,51]/\c2∈[48,49,50,51]/\H2 sg=some (.lst [.str ⟨#[c0]⟩,.str ⟨#[c1]⟩,.str ⟨#[c2]⟩])/\σ=[some (.ref a),some (.ref p),some (.ref sg),none,none,none,none,none,none,none,none,none,none,none]) (fun R' hR'=>?_) ?_
   ·refine⟨3,rfl,by decide,by decide,?_⟩
    refine qG (R:=fun(i:Int) v _=>v=.int i) (R2:=fun(_:Int) v _=>∃ c∈[48,49,50,51],v=.str ⟨#[c]⟩) (xs:=[0,1,2]) (fun _ _ _ _ _ h=>h) (fun _ _ _ _ _ h=>h) (vA 0 3) (.cons rfl (.cons rfl (.cons rfl .nil))) (small (by decide)) id (fun i hi y H2 s2 ry G hG=>?_) (fun ys H2 s2 D2 n hn=>?_)
    ·subst ry
     refine⟨_,rfl,a,ns,21,rfl,by decide,(s0.trans s2).seq hS,fun r1=>?_⟩
     refine⟨_,rfl,sz rfl,fun l hl=>?_⟩
     have t1:=Same.put (o:=.lst [V.int 3,V.int 4,V.int 4]) hl
     have i3:0<=i/\i<3:=(by decide:∀ x∈([0,1,2]:List Int),0<=x/\x<3) i hi
     obtain⟨v,hv,e⟩:=ou (xs:=([3,4,4]:List Int).map V.int) (i:=i) i3.1 (by simpa using i3.2)
     obtain⟨n,hn,rfl⟩:=List.mem_map.mp hv
     have n4:0<n/\n<=4:=(by decide:∀ x∈([3,4,4]:List Int),0<x/\x<=4) n hn
     refine⟨_,rfl,.inl ⟨l,_,_,_,rfl,rfl,SqL.of aA,e,?_⟩⟩
     refine⟨r1,i,n,rfl,n4.1,fun r2 H3 a3 b3 t3=>?_⟩
     have e4:("0123" : Str).cps.toList=[48,49,50,51]:=by decide +kernel
     obtain⟨cc,hc,ec⟩:=ou (xs:=("0123" : Str).cps.toList) (i:=r2) a3 (by rw[e4];show r2<4;lia)
     refine .inr (.inr ⟨_,r2,cc,rfl,rfl,by decide,ec,hG _ _ (t1.trans t3) ⟨cc,by rw[<- e4];exact hc,rfl⟩⟩)
    ·rw[List.map_id] at D2
     cases D2 with
     |cons h0 D2=>
      cases D2 with
      |cons h1 D2=>
       cases D2 with
       |cons h2 D2=>
        cases D2
        obtain⟨c0,m0,rfl⟩:=h0
        obtain⟨c1,m1,rfl⟩:=h1
        obtain⟨c2,m2,rfl⟩:=h2
        exact hR' _ _ ⟨n,c0,c1,c2,(s0.trans s2).free hn,(s0.trans s2).and hn,m0,m1,m2,aA,rfl⟩
   rintro σ H2 ⟨sg,c0,c1,c2,nsg,s2,m0,m1,m2,es,rfl⟩
   refine aD (fun σ H3=>∃ d0:Nat,Same H H3/\d0∈[35,48,49,50,51]/\H3 sg=some (.lst [.str ⟨#[d0]⟩,.str ⟨#[c1]⟩,.str ⟨#[c2]⟩])/\σ=[some (.ref a),some (.ref p),some (.ref sg),none,none,none,none,none,none,none,none,none,none,none]) (fun R' hR'=>?_) ?_
   ·refine⟨_,rfl,.inl ⟨sg,_,_,_,rfl,rfl,SqL.of es,cW,?_⟩⟩
    refine⟨sz rfl,fun l hl=>?_⟩
    have t1:=Same.put (o:=.lst [V.str ⟨#[c0]⟩,V.str "#"]) hl
    refine⟨_,rfl,a,ns,21,rfl,by decide,(s2.trans t1).seq hS,fun r0=>⟨_,_,rfl,rfl,(by show(0:Int)<2;decide),?_⟩⟩
    have b0:0<=r0%2:=Int.emod_nonneg _ (by decide)
    have b1:r0%2<2:=Int.emod_lt_of_pos _ (by decide)
    obtain⟨v,hv,e⟩:=ou (xs:=[V.str ⟨#[c0]⟩,V.str "#"]) (i:=r0%2) b0 (by simpa using b1)
    refine .inl ⟨l,_,_,_,rfl,rfl,SqL.of aA,e,?_⟩
    have hd:∃ d0∈[35,48,49,50,51],v=.str ⟨#[d0]⟩:=by
     rcases List.mem_cons.mp hv with z|z
     ·exact⟨c0,List.mem_cons_of_mem _ m0,z⟩
     ·rw[List.mem_singleton.mp z];exact⟨35,by simp,rfl⟩
    obtain⟨d0,md,rfl⟩:=hd
    refine⟨_,rfl,sg,_,_,0,rfl,rfl,t1 _ _ es,rfl,?_⟩
    have sb:SameBut sg (upd H2 l (.lst [V.str ⟨#[c0]⟩,V.str "#"])) (upd (upd H2 l (.lst [V.str ⟨#[c0]⟩,V.str "#"])) sg (.lst [.str ⟨#[d0]⟩,.str ⟨#[c1]⟩,.str ⟨#[c2]⟩])):=(SameBut.refl sg _).put
    exact hR' _ _ ⟨d0,sb.of (s2.trans t1) nsg,md,aA,rfl⟩
   rintro σ H3 ⟨d0,s3,md,es3,rfl⟩
   have at0:∀ {Q:VK},Q (.str ⟨#[d0]⟩) H3->rIx K (.ref sg) (.int 0) H3 Q:=fun q=>.inl ⟨sg,_,_,_,rfl,rfl,SqL.of es3,cW,q⟩
   have at1:∀ {Q:VK},Q (.str ⟨#[c1]⟩) H3->rIx K (.ref sg) (.int 1) H3 Q:=fun q=>.inl ⟨sg,_,_,_,rfl,rfl,SqL.of es3,eZ (j:=1) rfl,q⟩
   have at2:∀ {Q:VK},Q (.str ⟨#[c2]⟩) H3->rIx K (.ref sg) (.int 2) H3 Q:=fun q=>.inl ⟨sg,_,_,_,rfl,rfl,SqL.of es3,eZ (j:=2) rfl,q⟩
   refine⟨_,rfl,at0 ⟨small (by show 4+1<=10000;decide),?_⟩⟩
   refine⟨_,rfl,at1 ⟨small (by show 1+1<=10000;decide),small (by show 2+1<=10000;decide),?_⟩⟩
   refine⟨_,rfl,at2 ⟨small (by show 3+1<=10000;decide),small (by show 4+1<=10000;decide),?_⟩⟩
   refine⟨sz rfl,fun q nq=>?_⟩
   have key:=Vq md m1 m2
   generalize ("####" : Str)++⟨#[d0]⟩=r1 at key ⊢
   generalize ((("#" : Str)++⟨#[c1]⟩) ++ "#" ++ ⟨#[c2]⟩) ++ "#" = r2 at key ⊢
   generalize ("#####" : Str)=r3 at key ⊢
   exact hR _ _ ⟨q,[r1,r2,r3],5,_,s3.and nq,aA,key,rfl⟩
  rintro σ H1 ⟨p,zs,w,v2,s1,hp,vw,rfl⟩
  have z6:=vw.le
  have w6:=vw.w6
  have z1:=vw.ne
  have w1:=vw.w1
  refine aD (fun σ H2=>∃(x:Addr),Same H1 H2/\fY Z.View H2 x zs w/\σ=[some (.ref a),some (.ref p),v2,some (.ref x),none,none,none,none,none,none,none,none,none,none]) (fun R hR=>?_) ?_
  ·refine⟨_,rfl,p,_,rfl,.inl (SqL.of hp),fun l hl=>?_⟩
   intro x dx nx ndx nex
   have n2:(upd (upd H1 l (.lst (zs.map V.str))) dx (.own x)) x=none:=by rw[aO nex.symm];exact nx
   have s6:Same (upd H1 l (.lst (zs.map V.str))) (upd (upd (upd H1 l (.lst (zs.map V.str))) dx (.own x)) x (.ins Z.View dx [])):=(Same.put ndx).and n2
   obtain⟨z0,zt,ez,hz0⟩:=vw.toRect.head
   refine⟨x,dx,l,zs,rfl,aA,SqL.of (s6 _ _ aA),by lia,fun r hr'=>by have:=vw.len r hr';lia,fun hv=>(by rw[vw.ok] at hv;cases hv),fun _ H' lr z0' zt' e nlr nlx hlr hx' keep=>⟨rfl,?_⟩⟩
   have e0:z0'.length=w:=vw.len z0' (by rw[e];exact List.mem_cons_self)
   have n1:H1 x=none:=by
    have:(upd H1 l (.lst (zs.map V.str))) x=none:=nx
    by_cases hx:x=l
    ·subst hx;rw[aA] at this;cases this
    ·rwa[aO hx] at this
   refine hR _ _ ⟨x,fun b o hb=>keep b o (s6 _ _ ((Same.put hl) _ _ hb)) (bG hb n1),⟨⟨dx,lr,?_,hlr⟩,vw⟩,rfl⟩
   rw[<- e0];exact hx'
  rintro σ H2 ⟨x,s2,vt,rfl⟩
  refine aD (fun σ H3=>Same H2 H3/\σ=[some (.ref a),some (.ref p),v2,some (.ref x),some (.int zs.length),some (.int w),none,none,none,none,none,none,none,none]) (fun R hR=>?_) ?_
  ·exact⟨_,rfl,p,zs,w,rfl,SqL.of (s2 _ _ hp),vw.toRect,fun t H' s' hT=>⟨t,_,rfl,hT,rfl,_,_,rfl,_,_,rfl,rfl,hR _ _ ⟨s',rfl⟩⟩⟩
  rintro σ H3 ⟨s3,rfl⟩
  refine aD (fun σ H4=>∃ c:Int,H4=H3/\σ=[some (.ref a),some (.ref p),v2,some (.ref x),some (.int zs.length),some (.int w),some (.int c),none,none,none,none,none,none,none]) (fun R hR=>?_) ?_
  ·exact⟨_,rfl,a,ns,19,rfl,by decide,((s1.trans s2).trans s3).seq hS,fun r=>hR _ _ ⟨r,rfl,rfl⟩⟩
  rintro σ H4 ⟨c,rfl,rfl⟩
  refine aD (fun σ H5=>∃(v:V)(y:Cell),Same H2 H5/\Den K H5 v (ao y)/\σ=[some (.ref a),some (.ref p),v2,some (.ref x),some (.int zs.length),some (.int w),some (.int c),some v,none,none,none,none,none,none]) (fun R hR=>?_) ?_
  ·refine⟨_,rfl,_,rfl,_,1,_,rfl,by lia,fun r1 G1 a1 b1 t1=>?_⟩
   refine⟨_,rfl,_,rfl,_,2,_,rfl,by lia,fun r2 G2 a2 b2 t2=>?_⟩
   refine⟨sz rfl,fun t ht=>?_⟩
   exact hR _ _ ⟨.ref t,(r1,r2),s3.trans ((t1.trans t2).and ht),dY,rfl⟩
  rintro σ H5 ⟨v,y,s5,dv,rfl⟩
  refine aD (fun σ H6=>∃ rl:Addr,Same H5 H6/\Ls K H6 rl ((aJ zs w).map ao)/\σ=[some (.ref a),some (.ref p),v2,some (.ref x),some (.int zs.length),some (.int w),some (.int c),some v,some (.ref rl),none,none,none,none,none]) (fun R hR=>?_) ?_
  ·refine⟨_,rfl,p,zs,w,rfl,SqL.of (s5 _ _ (s2 _ _ hp)),vw,fun rl H6 fr=>?_⟩
   have l6:=fr.ls
   rw[K8] at l6
   exact hR _ _ ⟨rl,fr.same,l6,rfl⟩
  rintro σ H6 ⟨rl,s6,lr,rfl⟩
  refine aD (fun σ H7=>∃(v:V)(y:Cell),Same H6 H7/\Den K H7 v (ao y)/\σ=[some (.ref a),some (.ref p),v2,some (.ref x),some (.int zs.length),some (.int w),some (.int c),some v,some (.ref rl),none,none,none,none,none]) (fun R hR=>?_) ?_
  ·obtain⟨rs,er,Dr⟩:=id lr
   have lrs:rs.length=(aJ zs w).length:=by rw[Dr.length,List.length_map]
   refine⟨_,rfl,_,_,rfl,rfl,(by show(0:Int)<4;decide),?_⟩
   refine⟨_,_,rfl,rfl,_,rfl,?_⟩
   refine fj (fun _=>?_) (fun _=>nQ (hR _ _ ⟨v,y,Same.refl _,dv.mono s6,rfl⟩))
   refine⟨_,rfl,?_⟩
   dsimp only[je]
   refine jX lr.den ⟨_,_,rfl,rfl,_,rfl,?_⟩
   refine fj (fun h1=>?_) (fun _=>hR _ _ ⟨v,y,Same.refl _,dv.mono s6,rfl⟩)
   have h1:=of_decide_eq_true h1
   rw[List.length_map] at h1
   refine⟨_,rfl,_,rfl,_,rfl,?_⟩
   dsimp only[je]
   refine jX lr.den ?_
   rw[List.length_map]
   refine⟨_,_,_,rfl,h1,fun r7 H7 a7 b7 t7=>?_⟩
   obtain⟨u,hu7,e7⟩:=ou (xs:=rs) (i:=r7) a7 (by rw[lrs];exact b7)
   obtain⟨y',hy',d'⟩:=K1 Dr hu7
   exact .inl ⟨rl,_,_,_,rfl,rfl,SqL.of (t7 _ _ er),e7,hR _ _ ⟨u,y',t7,d'.mono t7,rfl⟩⟩
  clear dv
  rintro σ H7 ⟨v,y,s7,dv,rfl⟩
  have sP:Same H2 H7:=s5.trans (s6.trans s7)
  have hp7:=sP _ _ (s2 _ _ hp)
  have vt7:=vt.mono sP
  refine aD (fun σ H8=>∃(ol:Addr)(os:List V),Same H7 H8/\H8 ol=some (.lst os)/\cF (dI K H7) H8 os ((fZ zs w).filter fun g=>decide (y∈g))/\σ=[some (.ref a),some (.ref p),v2,some (.ref x),some (.int zs.length),some (.int w),some (.int c),some v,some (.ref rl),some (.ref ol),none,none,none,none]) (fun R hR=>?_) ?_
  ·refine⟨_,rfl,p,zs,w,rfl,SqL.of hp7,vw,fun q qs H8 nq s8 pa=>?_⟩
   refine⟨q,rfl,⟨_,SqL.of pa.at_⟩,?_⟩
   refine uJ (dI.stays) (dI.stays (K:=K) (H0:=H7)) (bf (SqL.of pa.at_)) (qX pa) (small (by have h1:=qW (zs:=zs) (w:=w) (aJ zs w) [];have h2:(aJ zs w).length<=36:=Nat.le_trans (List.length_filter_le _ _) (lO vw);unfold fZ;rw[List.length_nil] at h1;lia)) (fun g=>decide (y∈g)) id (fun g hg u H9 s9 ru G hG=>?_) (fun g hg _ u H9 s9 ru G hG=>⟨_,rfl,hG _ _ (Same.refl _) ru⟩) (fun ys H9 s9 D9 n hn=>?_)
   ·obtain⟨b,rfl,_,lb⟩:=ru
    exact⟨_,rfl,_,rfl,.inr (vI (dv.mono (s8.trans s9)) lb.den ⟨_,rfl,hG _ (Same.refl _)⟩)⟩
   ·rw[List.map_id] at D9
    exact hR _ _ ⟨n,ys,(s8.trans s9).and hn,aA,D9.mono dI.stays (Same.put hn),rfl⟩
  rintro σ H8 ⟨ol,os,s8,eo,ro,rfl⟩
  refine aD (fun σ H9=>∃ dq:Addr,Same H8 H9/\H9 dq=some (.tup [.int 1,.bl true])/\σ=[some (.ref a),some (.ref p),v2,some (.ref x),some (.int zs.length),some (.int w),some (.int c),some v,some (.ref rl),some (.ref ol),some (.ref dq),none,none,none]) (fun R hR=>?_) ?_
  ·exact⟨sz rfl,fun t ht=>hR _ _ ⟨t,Same.put ht,aA,rfl⟩⟩
  rintro σ H9 ⟨dq,s9,ed9,rfl⟩
  refine aD (fun σ H10=>∃(dq:Addr)(H8':Hp)(dqs:List Addr),Same H7 H10/\((y∉aJ zs w/\H10 dq=some (.tup [.int 1,.bl true]))\/(y∈aJ zs w/\12<(bQ zs w y).length/\H10 dq=some (.tup [.int 2,.bl true]))\/(y∈aJ zs w/\(bQ zs w y).length<=12/\lH K H8' H10 dq dqs (gH zs w (bQ zs w y))))/\σ=[some (.ref a),some (.ref p),v2,some (.ref x),some (.int zs.length),some (.int w),some (.int c),some v,some (.ref rl),some (.ref ol),some (.ref dq),none,none,none]) (fun R hR=>?_) ?_
  ·have eo9:=s9 _ _ eo
   by_cases hy:y∈aJ zs w
   ·rw[Ud z6 w6 hy] at ro
    cases ro with
    |cons h t=>
     cases t
     obtain⟨b,rfl,nb,lb⟩:=h
     have lb9:=lb.mono s9
     refine⟨_,rfl,?_⟩
     dsimp only[je]
     refine .inl ⟨ol,_,rfl,.inl (SqL.of eo9),_,_,rfl,rfl,_,rfl,?_⟩
     refine tH ⟨_,rfl,.inl ⟨ol,_,_,_,rfl,rfl,SqL.of eo9,cW,?_⟩⟩
     dsimp only[je]
     refine jX lb9.den ⟨_,_,rfl,rfl,_,rfl,?_⟩
     rw[List.length_map]
     refine fj (fun h1=>?_) (fun h1=>?_)
     ·refine⟨sz rfl,fun t ht=>hR _ _ ⟨t,H8,[],s8.trans (s9.and ht),.inr (.inl ⟨hy,by have:=of_decide_eq_true h1;lia,aA⟩),rfl⟩⟩
     ·have h12:(bQ zs w y).length<=12:=by have:=of_decide_eq_false h1;lia
      refine⟨_,rfl,?_⟩
      dsimp only[je]
      refine .inl ⟨ol,_,rfl,.inl (SqL.of eo9),_,_,rfl,rfl,_,rfl,?_⟩
      refine tH ⟨_,rfl,_,rfl,.inl ⟨ol,_,_,_,rfl,rfl,SqL.of eo9,cW,?_⟩⟩
      refine⟨p,b,zs,w,bQ zs w y,rfl,SqL.of (s9 _ _ (s8 _ _ hp7)),vw,lb9,Part.join z6 w6 hy,h12,fun q qs H10 nq s10 pa=>?_⟩
      exact hR _ _ ⟨q,H9,qs,s8.trans (s9.trans s10),.inr (.inr ⟨hy,h12,pa⟩),rfl⟩
   ·rw[Q6 z6 w6 hy] at ro
    cases ro
    refine⟨_,rfl,?_⟩
    dsimp only[je]
    refine .inl ⟨ol,_,rfl,.inl (SqL.of eo9),_,_,rfl,rfl,_,rfl,?_⟩
    refine nQ (nQ ⟨_,rfl,?_⟩)
    dsimp only[je]
    refine .inl ⟨ol,_,rfl,.inl (SqL.of eo9),_,_,rfl,rfl,_,rfl,?_⟩
    exact nQ (hR _ _ ⟨dq,H8,[],s8.trans s9,.inl ⟨hy,ed9⟩,rfl⟩)
  clear ed9 dq
  rintro σ H10 ⟨dq,H8',dqs,s10,XM,rfl⟩
  have XC:=dv.mono s10
  have Xl:=vt7.mono s10
  have Y5:=s10 _ _ hp7
  refine aD (fun σ H11=>∃(v11 v12 v13:Option V),Same H10 H11/\σ=[some (.ref a),some (.ref p),v2,some (.ref x),some (.int zs.length),some (.int w),some (.int c),some v,some (.ref rl),some (.ref ol),some (.ref dq),v11,v12,v13]) (fun R hR=>?_) ?_
  ·refine⟨2,rfl,by decide,by decide,?_⟩
   refine cR (lo:=0) (n:=2) (fun i σ H11=>∃(v11 v12 v13:Option V),Same H10 H11/\σ=[some (.ref a),some (.ref p),v2,some (.ref x),some (.int zs.length),some (.int w),some (.int c),some v,some (.ref rl),some (.ref ol),some (.ref dq),v11,v12,v13])
    ⟨none,none,none,Same.refl _,rfl⟩ (fun i σ H11 hi hh=>?_) (fun σ H11 hh=>?_)
   ·obtain⟨v11,v12,v13,s11,rfl⟩:=hh
    refine aD (fun σ H12=>∃(q:Addr)(qs:List Addr),Same H11 H12/\((y∉aJ zs w/\H12 q=some (.tup [.int 1,.bl true]))\/(y∈aJ zs w/\12<(bQ zs w y).length/\H12 q=some (.tup [.int 2,.bl true]))\/(y∈aJ zs w/\(bQ zs w y).length<=12/\H11 q=none/\lH K H11 H12 q qs (gH zs w (bQ zs w y))))/\σ=[some (.ref a),some (.ref p),v2,some (.ref x),some (.int zs.length),some (.int w),some (.int c),some v,some (.ref rl),some (.ref ol),some (.ref dq),some (.int (0+i)),some (.ref q),v13]) (fun R' hR'=>?_) ?_
    ·refine⟨_,rfl,_,rfl,x,v,zs,w,y,rfl,Xl.mono s11,XC.mono s11,fun hc t H12 s12 e12=>?_,fun hc hl t H12 s12 e12=>?_,fun hc hl q qs H12 nq s12 pa=>?_⟩
     ·exact hR' _ _ ⟨t,[],s12,.inl ⟨hc,e12⟩,rfl⟩
     ·exact hR' _ _ ⟨t,[],s12,.inr (.inl ⟨hc,hl,e12⟩),rfl⟩
     ·exact hR' _ _ ⟨q,qs,s12,.inr (.inr ⟨hc,hl,nq,pa⟩),rfl⟩
    rintro σ H12 ⟨q,qs,s12,T5,rfl⟩
    have sA:Same H10 H12:=s11.trans s12
    rcases XM with⟨hc,ed⟩|⟨hc,hl,ed⟩|⟨hc,hl,pd⟩
    ·have ef:H12 q=some (.tup [.int 1,.bl true]):=by
      rcases T5 with⟨_,e⟩|⟨z,_⟩|⟨z,_⟩
      ·exact e
      ·exact absurd z hc
      ·exact absurd z hc
     refine⟨_,rfl,.inr ⟨_,_,_,rfl,rfl,dq,_,true,rfl,.inl ⟨SqT.of (sA _ _ ed),T.M7⟩,_,rfl,?_⟩⟩
     refine tH ⟨_,rfl,_,rfl,.inr ⟨.tup [.int 1,.bl true],.tup [.int 1,.bl true],rfl,.tup ef (.cons (.int 1) (.cons (.bl true) .nil)),.tup (sA _ _ ed) (.cons (.int 1) (.cons (.bl true) .nil)),rfl,by decide,_,rfl,?_⟩⟩
     exact nQ ⟨_,_,_,sA,rfl⟩
    ·have ef:H12 q=some (.tup [.int 2,.bl true]):=by
      rcases T5 with⟨z,e⟩|⟨_,_,e⟩|⟨_,z,_⟩
      ·exact absurd hc z
      ·exact e
      ·lia
     refine⟨_,rfl,.inr ⟨_,_,_,rfl,rfl,dq,_,true,rfl,.inl ⟨SqT.of (sA _ _ ed),T.M7⟩,_,rfl,?_⟩⟩
     refine tH ⟨_,rfl,_,rfl,.inr ⟨.tup [.int 2,.bl true],.tup [.int 2,.bl true],rfl,.tup ef (.cons (.int 2) (.cons (.bl true) .nil)),.tup (sA _ _ ed) (.cons (.int 2) (.cons (.bl true) .nil)),rfl,by decide,_,rfl,?_⟩⟩
     exact nQ ⟨_,_,_,sA,rfl⟩
    ·have pn:H11 q=none/\lH K H11 H12 q qs (gH zs w (bQ zs w y)):=by
      rcases T5 with⟨z,e⟩|⟨_,z,e⟩|⟨_,_,e⟩
      ·exact absurd hc z
      ·lia
      ·exact e
     obtain⟨nq,pa⟩:=pn
     have Yl:H10 q=none:=s11.free nq
     have Q8:=pd.mono sA
     have llen:(gH zs w (bQ zs w y)).length<=4096:=Ih hl
     have rlen:∀ g∈gH zs w (bQ zs w y),g.length<=12:=fun g hg=>Nat.le_trans (Ii hg) hl
     generalize gH zs w (bQ zs w y)=ls at pa pd Q8 llen rlen
     have lq:qs.length=ls.length:=pa.len
     refine⟨_,rfl,.inr ⟨_,_,_,rfl,rfl,dq,_,false,rfl,.inr ⟨SqL.of Q8.at_,T.q_lt⟩,_,rfl,?_⟩⟩
     refine nQ ?_
     have dp:aN K H12 (qs.map V.ref) (ls.map oN):=(qX pa).JZ fun a v h=>h.den
     have dd:aN K H12 (dqs.map V.ref) (ls.map oN):=(qX Q8).JZ fun a v h=>h.den
     refine⟨_,rfl,.inr ⟨_,_,_,rfl,rfl,q,_,true,rfl,.inr ⟨SqL.of pa.at_,T.M6⟩,_,rfl,?_⟩⟩
     refine nQ ?_
     refine⟨_,rfl,q,rfl,⟨_,SqL.of pa.at_⟩,comp_map (K:=K) (xs:=ls) (enc:=oN) (bf (SqL.of pa.at_)) dp (small (by lia)) (fun _=>Dt.bl true) (fun g hg u H13 s13 d G hG=>?_) (fun ys H13 s13 D13 n hn=>?_)⟩
     ·cases d with
      |lst hd Dd=>exact⟨_,rfl,.inr ⟨_,_,_,rfl,rfl,_,_,true,rfl,.inr ⟨hd,T.M6⟩,hG _ _ (Same.refl _) (.bl true)⟩⟩
     ·have eb:(ls.map fun _=>Dt.bl true)=(ls.map fun _=>true).map Dt.bl:=by rw[List.map_map];rfl
      rw[eb] at D13
      have ey:=aN.yS D13
      subst ey
      have all1:(ls.map fun _=>true).all id=true:=List.all_eq_true.mpr fun b hb=>by obtain⟨_,_,rfl⟩:=List.mem_map.mp hb;rfl
      dsimp only[je]
      refine⟨n,_,rfl,SqL.of aA,_,rfl,?_⟩
      rw[all1]
      refine nQ ?_
      have s14:Same H12 (upd H13 n (.lst ((ls.map fun _=>true).map V.bl))):=s13.and hn
      generalize upd H13 n (.lst ((ls.map fun _=>true).map V.bl))=H14 at s14
      refine⟨_,rfl,_,rfl,.inr ⟨.lst (ls.map oN),.lst (ls.map oN),rfl,.lst (SqL.of (s14 _ _ pa.at_)) (dp.mono s14),.lst (SqL.of (s14 _ _ Q8.at_)) (dd.mono s14),vQ _,K4 ls,_,rfl,?_⟩⟩
      show if(!eqD (.lst (ls.map oN)) (.lst (ls.map oN)))=true then _ else _
      rw[lW]
      refine nQ ?_
      have Ue:=pa.mono s14
      have Yg:∀ b∈qs,H10 b=none:=fun b hb=>s11.free (pa.new b hb)
      refine aD (fun σ H15=>∃ v13:Option V,Same H10 H15/\H15 q=some (.lst (qs.map V.ref))/\σ=[some (.ref a),some (.ref p),v2,some (.ref x),some (.int zs.length),some (.int w),some (.int c),some v,some (.ref rl),some (.ref ol),some (.ref dq),some (.int (0+i)),some (.ref q),v13]) (fun R2 hR2=>?_) ?_
      ·refine⟨_,rfl,q,rfl,⟨_,SqL.of Ue.at_⟩,?_⟩
       refine cX (K:=K) (xs:=qs.map V.ref) (fun k σ H15=>∃ v13:Option V,Same H10 H15/\H15 q=some (.lst (qs.map V.ref))/\(∀(j:Nat)(b:Addr)(g:List Cell),k<=j->qs[j]?=some b->ls[j]?=some g->Ls K H15 b (g.map ao))/\σ=[some (.ref a),some (.ref p),v2,some (.ref x),some (.int zs.length),some (.int w),some (.int c),some v,some (.ref rl),some (.ref ol),some (.ref dq),some (.int (0+i)),some (.ref q),v13])
        ⟨v13,sA.trans s14,Ue.at_,fun j b g _=>Ue.ls j b g,rfl⟩ (fun k σ H15 _ hh=>by obtain⟨_,_,e,_⟩:=hh;exact SqL.of e) (fun k u σ H15 hk hh=>?_) (fun σ H15 hh=>?_)
       ·obtain⟨v13,q1,q2,q5,rfl⟩:=hh
        rw[List.getElem?_map] at hk
        obtain⟨b,hb,rfl⟩:=Option.map_eq_some_iff.mp hk
        have kq:k<qs.length:=(List.getElem?_eq_some_iff.mp hb).1
        have kl:k<ls.length:=by lia
        have hg:ls[k]?=some ls[k]:=List.getElem?_eq_getElem kl
        have lg:=rlen _ (List.getElem_mem kl)
        generalize ls[k]=g at hg lg
        have bm:b∈qs:=List.mem_of_getElem? hb
        obtain⟨xs,ex,Dx⟩:=q5 k b g (Nat.le_refl _) hb hg
        have lx:xs.length<=12:=by rw[Dx.length,List.length_map];exact lg
        refine⟨_,rfl,.inl ⟨rfl,_,SqL.of ex⟩,sz rfl,fun t ht=>?_⟩
        refine⟨b,xs,_,rfl,rfl,(Same.put ht) _ _ ex,ltl (by lia),?_⟩
        have st:=Same.put (o:=.tup [V.int 9,V.int 9]) ht
        have sb:SameBut b H15 (upd (upd H15 t (.tup [V.int 9,V.int 9])) b (.lst (xs++[.ref t]))):=(st.but b).put
        have nbq:q≠b:=fun z=>pa.nq (by rw[z];exact bm)
        refine⟨_,sb.of q1 (Yg b bm),sb _ _ q2 nbq,fun j d g' hj h h'=>?_,rfl⟩
        refine sb.ls ex (fun z=>?_) (q5 j d g' (by lia) h h')
        subst z
        have h1:=(List.getElem?_eq_some_iff.mp h).1
        have e1:=(List.getElem?_eq_some_iff.mp h).2
        have e2:=(List.getElem?_eq_some_iff.mp hb).2
        have:j=k:=(List.getElem_inj pa.nd).mp (e1.trans e2.symm)
        lia
       ·obtain⟨v13,q1,q2,_,rfl⟩:=hh
        exact hR2 _ _ ⟨v13,q1,q2,rfl⟩
      rintro σ H15 ⟨v13,q1,q2,rfl⟩
      refine⟨_,rfl,.inl ⟨rfl,_,SqL.of q2⟩,by decide,fun t ht=>⟨q,_,_,rfl,rfl,(Same.put ht) _ _ q2,ltl (by rw[List.length_map];lia),?_⟩⟩
      have st:=Same.put (o:=.lst []) ht
      exact⟨_,_,_,((st.but q).put).of q1 Yl,rfl⟩
   ·obtain⟨v11,v12,v13,s11,rfl⟩:=hh
    exact hR _ _ ⟨v11,v12,v13,s11,rfl⟩
  rintro σ H11 ⟨v11,v12,v13,s11,rfl⟩
  obtain⟨dx,l,hx,hl⟩:=(Xl.mono s11).ob
  refine⟨_,rfl,x,Z.View,dx,_,_,rfl,hx,T.dO,T.fG,Dh _ _ _,_,rfl,.inr ⟨_,_,rfl,Fw hl,Fw (s11 _ _ Y5),vQ _,Om zs,?_⟩⟩
  show Q (.bl (eqD _ _)) _
  rw[lW];exact hq _
end
end My
namespace My
open PySem L2
def lC(x q:Str)(st:Stmt)(ps:List Str):Prop:=∀(kV doc pm:Value)(an:Option Addr)(cdv ct:Value)(us:List Value),us.length=ps.length->bindArgs (PySem.W.fnOf x q (fX st) (dB st) (aG st) .none kV doc pm an cdv ct) ⟨us,[]⟩=pure (ps.zip us)
theorem bind1{x q:Str}{st:Stmt}{p0:Str}(h:∀(kV doc pm:Value) (an:Option Addr) (cdv ct u0:Value),bindArgs (PySem.W.fnOf x q (fX st) (dB st) (aG st) .none kV doc pm an cdv ct) ⟨[u0],[]⟩=pure [(p0,u0)]):lC x q st [p0]:=fun kV doc pm an cdv ct us hl=>match us,hl with|[u0],_=>h kV doc pm an cdv ct u0
theorem gA{x q:Str}{st:Stmt}{p0 p1:Str}(h:∀(kV doc pm:Value) (an:Option Addr) (cdv ct u0 u1:Value),bindArgs (PySem.W.fnOf x q (fX st) (dB st) (aG st) .none kV doc pm an cdv ct) ⟨[u0,u1],[]⟩=pure [(p0,u0),(p1,u1)]):lC x q st [p0,p1]:=fun kV doc pm an cdv ct us hl=>match us,hl with|[u0,u1],_=>h kV doc pm an cdv ct u0 u1
theorem JC{x q:Str}{st:Stmt}{p0 p1 p2:Str}(h:∀(kV doc pm:Value) (an:Option Addr) (cdv ct u0 u1 u2:Value),bindArgs (PySem.W.fnOf x q (fX st) (dB st) (aG st) .none kV doc pm an cdv ct) ⟨[u0,u1,u2],[]⟩=pure [(p0,u0),(p1,u1),(p2,u2)]):lC x q st [p0,p1,p2]:=fun kV doc pm an cdv ct us hl=>match us,hl with|[u0,u1,u2],_=>h kV doc pm an cdv ct u0 u1 u2
theorem Rk{x q:Str}{st:Stmt}{p0 p1 p2 p3:Str}(h:∀(kV doc pm:Value) (an:Option Addr) (cdv ct u0 u1 u2 u3:Value),bindArgs (PySem.W.fnOf x q (fX st) (dB st) (aG st) .none kV doc pm an cdv ct) ⟨[u0,u1,u2,u3],[]⟩=pure [(p0,u0),(p1,u1),(p2,u2),(p3,u3)]):lC x q st [p0,p1,p2,p3]:=fun kV doc pm an cdv ct us hl=>match us,hl with|[u0,u1,u2,u3],_=>h kV doc pm an cdv ct u0 u1 u2 u3
theorem Vz{x q:Str}{st:Stmt}{p0 p1 p2 p3 p4:Str}(h:∀(kV doc pm:Value) (an:Option Addr) (cdv ct u0 u1 u2 u3 u4:Value),bindArgs (PySem.W.fnOf x q (fX st) (dB st) (aG st) .none kV doc pm an cdv ct) ⟨[u0,u1,u2,u3,u4],[]⟩=pure [(p0,u0),(p1,u1),(p2,u2),(p3,u3),(p4,u4)]):lC x q st [p0,p1,p2,p3,p4]:=fun kV doc pm an cdv ct us hl=>match us,hl with|[u0,u1,u2,u3,u4],_=>h kV doc pm an cdv ct u0 u1 u2 u3 u4
section
variable{P:Program}{w:World}{K:PySem.W.Frag}{mg:Str->Option Value}{base h:Heap}
def cB(K:PySem.W.Frag)(x:Str)(st:Stmt):Prop:=∃ f,PySem.W.nsIn K mainGlobals x=some (some (.ref f))/\∃ fd,Fun K x x st f fd
def Ci(K:PySem.W.Frag)(C:Addr)(m q:Str)(st:Stmt):Prop:=∃ f,(PySem.W.findIn K (.ref C) m=some (some (.ref f))/\PySem.W.isFn K (.ref f)=true)/\∃ fd,Fun K m q st f fd
section
variable{x q:Str}{st:Stmt}{f C:Addr}{oc:Value}{od an:Option Addr}{osl:Array (Option Value)}{kV doc pm cdv ct:Value}
theorem VG(a:PySem.W.nsIn K mainGlobals x=some (some (.ref f)))(l:K.lookup f=some ⟨oc,od,.func (PySem.W.fnOf x x (fX st) (dB st) (aG st) .none kV doc pm an cdv ct),osl⟩)(c:PySem.W.codeIn K cdv x=true)(k:PySem.W.keepIn K (.ref f)=true):cB K x st:=⟨f,a,_,Kg l c k⟩
theorem Tt(a:PySem.W.findIn K (.ref C) x=some (some (.ref f)))(i:PySem.W.isFn K (.ref f)=true)(l:K.lookup f=some ⟨oc,od,.func (PySem.W.fnOf x q (fX st) (dB st) (aG st) .none kV doc pm an cdv ct),osl⟩)(c:PySem.W.codeIn K cdv q=true)(k:PySem.W.keepIn K (.ref f)=true):Ci K C x q st:=⟨f,⟨a,i⟩,_,Kg l c k⟩
end
theorem Xi{x:Str}{v:Int}{t:Tok}(h:PySem.W.nsIn K mainGlobals x=some (some (.int v t))):∃ t,PySem.W.nsIn K mainGlobals x=some (some (.int v t)):=⟨t,h⟩
theorem Yz{x v:Str}{t:Tok}(h:PySem.W.nsIn K mainGlobals x=some (some (.str v t))):∃ t,PySem.W.nsIn K mainGlobals x=some (some (.str v t)):=⟨t,h⟩
theorem VH(X:K.In h)(G:h.Ns mainGlobals mg){x:Str}{st:Stmt}{k:Nat}{ps:List Str}{sp:Sp}(d:cB K x st)(hb:lC x x st ps)(ok:∀ f fd,Fun K x x st f fd->cu P w K mg base (CXE P w) k f fd ps sp):Df P w K mg base k x ps sp:=by
 obtain⟨f,a,fd,F⟩:=d
 exact⟨⟨f,fd,ok f fd F,PySem.W.mg_of X G a,F.kp,F.binds hb⟩⟩
theorem Tp(X:K.In h)(G:h.Ns mainGlobals mg){fa:Addr}{st:Stmt}{k:Nat}{sp:Sp} (hfa:mg "law" = some (.ref fa)) (d:cB K "law" st) (hb:lC "law" "law" st ["script"]) (ok:∀ base f fd,Fun K "law" "law" st f fd->cu P w K mg base (CXE P w) k f fd ["script"] sp) :
  ∃ fd:FuncData,(∀(s:Shared)(v:Value),BindsTo s fd ⟨[v],[]⟩ [("script",v)])/\∀ base:Heap,K.In base->base.Ns mainGlobals mg->cu P w K mg base (CXE P w) k fa fd ["script"] sp:=by
 obtain⟨f,a,fd,F⟩:=d
 have e:=hfa.symm.trans (PySem.W.mg_of X G a)
 cases e
 refine⟨fd,fun s v=>?_,fun base _ _=>ok base _ _ F⟩
 obtain⟨oc,od,kV,doc,pm,an,cdv,ct,osl,rfl,lk,hcd⟩:=F.ex
 exact .of_eq (hb kV doc pm an cdv ct [v] rfl)
theorem Wg(X:K.In h)(G:h.Ns mainGlobals mg){x q:Str}{st:Stmt}{C:Addr}{k:Nat}{ps:List Str}{sp:Sp}(a:PySem.W.nsIn K mainGlobals x=some (some (.ref C)))(mk:PySem.W.makesIn K C=true)(kc:PySem.W.keepIn K (.ref C)=true) (m:Ci K C "__init__" q st) (hb:lC "__init__" q st ps) (ok:∀ f fd,Fun K "__init__" q st f fd->cu P w K mg base (CXE P w) k f fd ps sp):Md P w K mg base k x ps C sp:=by
 obtain⟨f,⟨b,i⟩,fd,F⟩:=m
 exact⟨⟨f,fd,⟨mk,b,i,kc⟩,ok f fd F,PySem.W.mg_of X G a,F.binds hb⟩⟩
end
theorem all_mk{l:PySem.W.OpenLaw}{w:World}{K:PySem.W.Frag}{h:Heap}{mg:Str->Option Value}{fa:Addr}(X:K.In h)(G:h.Ns mainGlobals mg) (hfa:mg "law" = some (.ref fa))
  {gq:Addr}
  {qy:Addr}
  {lK:Addr}
  {iR:Addr}
  {jL:Addr}
  (jM:PySem.W.nsIn K mainGlobals "FieldError" = some (some (.ref gq)))
  (qz:PySem.W.nsIn K mainGlobals "BadView" = some (some (.ref qy)))
  (ux:PySem.W.nsIn K mainGlobals "NoCell" = some (some (.ref lK)))
  (oh:PySem.W.nsIn K mainGlobals "TooGreat" = some (some (.ref iR)))
  (yq:PySem.W.nsIn K mainGlobals "View" = some (some (.ref jL)))
  (kY:PySem.W.excIn K gq [.type "ValueError",.type "Exception",.type "BaseException",.type "object"] "ValueError.__new__" = true)
  (nO:PySem.W.excIn K qy [.type "ValueError",.type "Exception",.type "BaseException",.type "object"] "ValueError.__new__" = true)
  (jF:PySem.W.excIn K lK [.type "ValueError",.type "Exception",.type "BaseException",.type "object"] "ValueError.__new__" = true)
  (gP:PySem.W.excIn K iR [.type "ValueError",.type "Exception",.type "BaseException",.type "object"] "ValueError.__new__" = true)
  (tK:Ci K jL "__init__" "View.__init__" gZ)
  (dO:Cls K jL)
  (Py:PySem.W.makesIn K jL=true)
  (Pg:PySem.W.keepIn K (.ref jL)=true)
  (fG:PySem.W.findIn K (.ref jL) "rows" = some none)
  (d9:PySem.W.findIn K (.ref jL) "height" = some none)
  (dU:PySem.W.findIn K (.ref jL) "width" = some none)
  (gk:∃ t,PySem.W.nsIn K mainGlobals "MOST_ROWS" = some (some (.int 6 t)))
  (dF:∃ t,PySem.W.nsIn K mainGlobals "MOST_COLUMNS" = some (some (.int 6 t)))
  (eO:∃ t,PySem.W.nsIn K mainGlobals "CLOSED_SIGN" = some (some (.str "#" t)))
  (nu:∃ t,PySem.W.nsIn K mainGlobals "SIGNS" = some (some (.str "#012345678" t)))
  (fM:∃ t,PySem.W.nsIn K mainGlobals "MOST_CELLS" = some (some (.int 12 t)))
  (Xn:PySem.W.nsIn K mainGlobals "all" = some none)
  (BX:PySem.W.nsIn K mainGlobals "enumerate" = some none)
  (Xo:PySem.W.nsIn K mainGlobals "int" = some none)
  (zF:PySem.W.nsIn K mainGlobals "isinstance" = some none)
  (Xp:PySem.W.nsIn K mainGlobals "len" = some none)
  (Vv:PySem.W.nsIn K mainGlobals "list" = some none)
  (Xq:PySem.W.nsIn K mainGlobals "max" = some none)
  (Xr:PySem.W.nsIn K mainGlobals "min" = some none)
  (Rf:PySem.W.nsIn K mainGlobals "range" = some none)
  (Xu:PySem.W.nsIn K mainGlobals "set" = some none)
  (O5:PySem.W.nsIn K mainGlobals "sorted" = some none)
  (Xv:PySem.W.nsIn K mainGlobals "str" = some none)
  (Rg:PySem.W.nsIn K mainGlobals "tuple" = some none)
  (Qz:PySem.W.kitOne K (.ref lK) (.ref gq)=some true)
  (QB:PySem.W.kitOne K (.ref iR) (.ref gq)=some true)
  (QC:PySem.W.kitOne K (.ref iR) (.ref lK)=some false)
  (M6:PySem.W.kitOne K (.type "list") (.type "list")=some true)
  (M7:PySem.W.kitOne K (.type "tuple") (.type "tuple")=some true)
  (q_lt:PySem.W.kitOne K (.type "list") (.type "tuple")=some false)
  (V3:PySem.W.kitOne K (.type "tuple") (.type "list")=some false)
  (uL:cB K "_law_cell_at" j6)
  (CQ:cB K "_law_mix" oR)
  (zR:cB K "_law_near" mF)
  (yJ:cB K "_law_sizes" kO)
  (yG:cB K "_law_cells" kE)
  (wk:cB K "_law_figure" jo)
  (tu:cB K "_law_field_by" ig)
  (yI:cB K "_law_shown" kJ)
  (wu:cB K "_law_opened" jq)
  (uN:cB K "_law_view_by" j8)
  (tD:cB K "_law_wrong_by" iu)
  (zQ:cB K "_law_edge" mD)
  (JR:cB K "is_row" vM)
  (Hz:cB K "is_size" rB)
  (HB:cB K "is_view" rC)
  (CT:cB K "has_cell" oU)
  (zT:cB K "is_closed" mG)
  (Oi:cB K "cells" zf)
  (Sv:cB K "near" Ef)
  (zU:cB K "open_near" mH)
  (wz:cB K "closed_near" jr)
  (JN:cB K "closed" vK)
  (Ss:cB K "edge" Ed)
  (JQ:cB K "figure" vL)
  (JT:cB K "joined" vN)
  (yH:cB K "_law_parts" kI)
  (Hx:cB K "demands" rA)
  (CV:cB K "may_hold" oV)
  (HD:cB K "layings" rD)
  (uM:cB K "_law_layings" j7)
  (CP:cB K "_law_met" oO)
  (VF:cB K "law" Mz) :
  ∃ fd:FuncData,(∀(s:Shared)(v:Value),BindsTo s fd ⟨[v],[]⟩ [("script",v)])/\∀ base:Heap,K.In base->base.Ns mainGlobals mg->cu l.prog w K mg base (CXE l.prog w) 7 fa fd ["script"] (GP K):=by
 obtain⟨_,gk⟩:=gk
 obtain⟨_,dF⟩:=dF
 obtain⟨_,eO⟩:=eO
 obtain⟨_,nu⟩:=nu
 obtain⟨_,fM⟩:=fM
 have T:Txt K mg ⟨gq,qy,lK,iR,jL⟩:={ Fd:=PySem.W.mg_none_of X G Xn,lM:=PySem.W.mg_none_of X G BX,Fe:=PySem.W.mg_none_of X G Xo,fK:=PySem.W.mg_none_of X G zF,cG:=PySem.W.mg_none_of X G Xp,uD:=PySem.W.mg_none_of X G Vv,Jz:=PySem.W.mg_none_of X G Xq,Fg:=PySem.W.mg_none_of X G Xr,dw:=PySem.W.mg_none_of X G Rf,Ri:=PySem.W.mg_none_of X G Xu,lN:=PySem.W.mg_none_of X G O5,Rj:=PySem.W.mg_none_of X G Xv,Fi:=PySem.W.mg_none_of X G Rg,gk:=⟨_,PySem.W.mg_of X G gk⟩,dF:=⟨_,PySem.W.mg_of X G dF⟩,eO:=⟨_,PySem.W.mg_of X G eO⟩,nu:=⟨_,PySem.W.mg_of X G nu⟩,fM:=⟨_,PySem.W.mg_of X G fM⟩,jN:=PySem.W.mg_of X G jM,kY:=⟨kY⟩,wK:=PySem.W.mg_of X G qz,nO:=⟨nO⟩,oX:=PySem.W.mg_of X G ux,jF:=⟨jF⟩,oA:=PySem.W.mg_of X G oh,gP:=⟨gP⟩,S8:=PySem.W.mg_of X G yq,dO:=dO,fG:=fG,d9:=d9,dU:=dU,Qz:=Qz,QB:=QB,QC:=QC,M6:=M6,M7:=M7,q_lt:=q_lt,V3:=V3 }
 refine Tp X G hfa VF (bind1 fun _ _ _ _ _ _ _=>rfl) fun base _ _ F=>?_
 have dm:=@VH l.prog w K mg base h X G
 have cm:=@Wg l.prog w K mg base h X G
 have aP:=dm uL (gA fun _ _ _ _ _ _ _ _=>rfl) fun _ _ F=>PJ F T
 have bB:=dm CQ (JC fun _ _ _ _ _ _ _ _ _=>rfl) fun _ _ F=>U0 F T
 have bH:=dm zR (JC fun _ _ _ _ _ _ _ _ _=>rfl) fun _ _ F=>PX F T
 have bN:=dm yJ (bind1 fun _ _ _ _ _ _ _=>rfl) fun _ _ F=>Li F T
 have cJ:=dm yG (gA fun _ _ _ _ _ _ _ _=>rfl) fun _ _ F=>Lb F T
 have eE:=dm wk (Rk fun _ _ _ _ _ _ _ _ _ _=>rfl) fun _ _ F=>Ir F T bH
 have gV:=dm tu (gA fun _ _ _ _ _ _ _ _=>rfl) fun _ _ F=>Ld F T aP bB
 have jH:=dm yI (Rk fun _ _ _ _ _ _ _ _ _ _=>rfl) fun _ _ F=>Lh F T eE
 have jl:=dm wu (Vz fun _ _ _ _ _ _ _ _ _ _ _=>rfl) fun _ _ F=>Iw F T bH eE
 have iQ:=dm uN (JC fun _ _ _ _ _ _ _ _ _=>rfl) fun _ _ F=>Iz F T aP bB gV jl jH
 have gW:=dm tD (gA fun _ _ _ _ _ _ _ _=>rfl) fun _ _ F=>Lj F T aP bB
 have gb:=dm zQ (bind1 fun _ _ _ _ _ _ _=>rfl) fun _ _ F=>PK F T bH bN cJ
 have uq:=dm JR (gA fun _ _ _ _ _ _ _ _=>rfl) fun _ _ F=>U3 F T
 have ql:=dm Hz (gA fun _ _ _ _ _ _ _ _=>rfl) fun _ _ F=>Q0 F T
 have qm:=dm HB (bind1 fun _ _ _ _ _ _ _=>rfl) fun _ _ F=>Q5 F T uq ql
 have Cg:=cm yq Py Pg tK (gA fun _ _ _ _ _ _ _ _=>rfl) fun _ _ F=>PL F T qm
 have gK:=dm CT (gA fun _ _ _ _ _ _ _ _=>rfl) fun _ _ F=>TV F T
 have cU:=dm zT (gA fun _ _ _ _ _ _ _ _=>rfl) fun _ _ F=>Aw F T gK
 have yj:=dm Oi (bind1 fun _ _ _ _ _ _ _=>rfl) fun _ _ F=>Av F T
 have qt:=dm Sv (gA fun _ _ _ _ _ _ _ _=>rfl) fun _ _ F=>Lg F T gK
 have cV:=dm zU (gA fun _ _ _ _ _ _ _ _=>rfl) fun _ _ F=>Ay F T qt cU
 have eF:=dm wz (gA fun _ _ _ _ _ _ _ _=>rfl) fun _ _ F=>wB F T qt cU
 have um:=dm JN (bind1 fun _ _ _ _ _ _ _=>rfl) fun _ _ F=>Ip F T yj cU
 have Ca:=dm Ss (bind1 fun _ _ _ _ _ _ _=>rfl) fun _ _ F=>Lf F T um cV
 have uo:=dm JQ (gA fun _ _ _ _ _ _ _ _=>rfl) fun _ _ F=>DN F T
 have ur:=dm JT (gA fun _ _ _ _ _ _ _ _=>rfl) fun _ _ F=>Iu F T cV eF
 have jG:=dm yH (bind1 fun _ _ _ _ _ _ _=>rfl) fun _ _ F=>Iv F T bN gb cJ bH
 have qj:=dm Hx (gA fun _ _ _ _ _ _ _ _=>rfl) fun _ _ F=>DG F T cV eF uo
 have o8:=dm CV (gA fun _ _ _ _ _ _ _ _=>rfl) fun _ _ F=>TY F T
 have qp:=dm HD (gA fun _ _ _ _ _ _ _ _=>rfl) fun _ _ F=>DK F T Ca ur qj o8
 have iM:=dm uM (gA fun _ _ _ _ _ _ _ _=>rfl) fun _ _ F=>Ax F T bN cJ bH
 have o7:=dm CP (gA fun _ _ _ _ _ _ _ _=>rfl) fun _ _ F=>PN F T qp
 exact TX F T aP bB iQ gW Cg bN gb jG iM o7
theorem walk{l:PySem.W.OpenLaw}{q:Program}{loose:List Str}{XP:(Str->Option Value)->Heap->Prop}{YP:World->Heap->Prop}{d:DefRec}{K:Params->PySem.W.Frag}(hn:l.most=some 63)(hdf:d.params.defaults=[])
  (hY:∀(w:World)(h:Heap),YP w h->(K w.params).In h)
  (F:∀(w:World)(mg:Str->Option Value)(fa:Addr)(h:Heap),(K w.params).In h->h.Ns mainGlobals mg->mg d.name=some (.ref fa) ->
   ∃ fd:FuncData,(∀(s:Shared)(u:Value),BindsTo s fd ⟨[u],[]⟩ [("script",u)])/\∀ base:Heap,(K w.params).In base->base.Ns mainGlobals mg->cu l.prog w (K w.params) mg base (CXE l.prog w) 7 fa fd ["script"] (GP (K w.params))) :
  PySem.W.WalkO q loose XP YP l.row.toRowW d [] (fun f vs=>PySem.call f vs):=
 L2.R8 (n:=63) (k:=7) (x:="script") (CX:=fun w=>CXE l.prog w) (sp:=fun w=>GP (K w.params)) hn (by decide) hdf ⟨rfl,by decide,by decide⟩ hY F (fun _ _ a ns hl _ hS=>⟨a,ns,rfl,hS,fun _=>rfl⟩) fun _ _ _ _ _ z=>by
  obtain⟨_,_,_,_,_,_,_,_,_,z⟩:=z
  exact z
end My
namespace PySem.W.Fast
def tw17976421445357700185:=0
def tw3919775625298776215:=0
def tw16543228876985124308:=0
def tw5582179725531334296:=0
def tw14764737331309833811:=0
def tw10517036362876522895:=0
def tw10480771036999752882:=0
def tw3740154352991938389:=0
def tw13773663027703471138:=0
def tw4726526307651913033:=0
def tw14910699456628731260:=0
def tw17110853541827044772:=0
def tw13508972324033252978:=0
def tw3901066346700294366:=0
def tw1781599498519446628:=0
def tw9506800158538610672:=0
def tw2038877430494084744:=0
def tw11845470815713652327:=0
def tw8045316072153354361:=0
def tw1403013822726197164:=0
def tw17025516076489530673:=0
def tw10407515158233510494:=0
def tw1370791838402784867:=0
def tw7620542147506592136:=0
def tw13007185677267335050:=0
def tw6973228108628508957:=0
def tw17715901983165141910:=0
def tw15842515546619096201:=0
def tw11587427920353063552:=0
def tw6453688072309619120:=0
def tw2226613632464876518:=0
def tw11106509561054667509:=0
def tw1301003026673180650:=0
def tw1774506060360413207:=0
def tw13160950107024948030:=0
def tw9452365543660175938:=0
def tw9631139124020893379:=0
def tw13332933116927809935:=0
def tw3069741106326450504:=0
def tw9810327618310309356:=0
def tw6136046439601771355:=0
def tw12932004625308738858:=0
def tw6657534673734569954:=0
def tw14031296673585722066:=0
def tw9445540356836462092:=0
def tw11289074603544753092:=0
def tw11613197645460610159:=0
def tw2289681106373856205:=0
def tw5085563160502622404:=0
def tw3980047882337905414:=0
def tw9441691855349168780:=0
def tw13423381784897064910:=0
def tw5612148263249792913:=0
def tw17293068947452427166:=0
def tw15285398151090478141:=0
def tw8037973828783654790:=0
def tw13886814441704368579:=0
def tw13013164970725476666:=0
def tw3192385068603594443:=0
def tw10846476650317190064:=0
def tw8630239314349963157:=0
def tw2322306204279010144:=0
def tw11972618542619232261:=0
def tw6464399492308460900:=0
def tw1720052805997318538:=0
def tw1929199793001867983:=0
def tw12773912101803969662:=0
def tw11205961706500343278:=0
def tw17750495402570342927:=0
def tw8012863731184752734:=0
def tw3600392075098985994:=0
def tw6938221789968669070:=0
def tw7420276810353204098:=0
def tw2940951421661790733:=0
def tw367913984205968378:=0
def tw11306276437158480693:=0
def tw13346409430484011408:=0
def tw11762225921179320050:=0
def tw3202567393234773473:=0
def tw2769916376276784047:=0
def tw8324489843288592749:=0
def tw4544675781264439494:=0
def tw17960122163375679351:=0
end PySem.W.Fast
open PySem PySem.W PyProof.Rows
set_option maxRecDepth 100000 in
set_option maxHeartbeats 0 in
theorem PySem.Challenge.cw_dampfield_k05_layings_of_parts_holds : PySem.Challenge.rw_dampfield_k05_layings_of_parts.Holds := by
 w_on;o_law;k_head;(case hw=>w_witness2)
 k_fill
 refine My.walk (l:=PySem.Challenge.rw_dampfield_k05_layings_of_parts) rfl rfl (fun w h Y=>PySem.W.kIn_of Y) ?F
 case F=>
  intro w mg fa h KX G hmg
  refine' My.all_mk KX G hmg ?jM ?qz ?ux ?oh ?yq ?_ ?_ ?_ ?_ ?_ ?_ ?_ ?_ ?_ ?_ ?_ ?_ ?_ ?_ ?_ ?_ ?_ ?_ ?_ ?_ ?_ ?_ ?_ ?_ ?_ ?_ ?_ ?_ ?_ ?_ ?_ ?_ ?_ ?_ ?_ ?_ ?_ ?_ ?_ ?_ ?_ ?_ ?_ ?_ ?_ ?_ ?_ ?_ ?_ ?_ ?_ ?_ ?_ ?_ ?_ ?_ ?_ ?_ ?_ ?_ ?_ ?_ ?_ ?_ ?_ ?_ ?_ ?_
  (case jM=>k_is)
  (case qz=>k_is)
  (case ux=>k_is)
  (case oh=>k_is)
  (case yq=>k_is)
  iterate 4 k_exc
  iterate 1 (refine' My.Tt ?a ?i ?b ?c ?d;(case a=>k_is);(case i=>k_is);(case b=>k_is);(case c=>k_is);(case d=>k_is))
  iterate 1 (refine' ⟨?_,?_,?_,?_⟩<;>k_is)
  iterate 5 k_is
  iterate 2 (refine' My.Xi ?a;(case a=>k_is))
  iterate 2 (refine' My.Yz ?a;(case a=>k_is))
  iterate 1 (refine' My.Xi ?a;(case a=>k_is))
  iterate 13 k_is
  iterate 7 kit_is
  iterate 32 (refine' My.VG ?a ?b ?c ?d;(case a=>k_is);(case b=>k_is);(case c=>k_is);(case d=>k_is))
