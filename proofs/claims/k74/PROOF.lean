import PyProof.Rows.All
import Wide.All
import OpenK.AllK
import Wide.FinOn
import Lean
import PyProof.EqAt
import PyProof.EqKinds
import PyProof.TupleCall
import PySem.SetOps
import PyProof.ExcClass2
import PyProof.ExcInit
import PyProof.InstStoreFacts
import PyProof.ExcArgsOwn
import PyProof.ExcBaseAll.ValueError
import PyProof.ExcAttrAll.ValueError
import OpenK.KOwn
import PyProof.RulesDel
import PyProof.RulesAs
import PySem.Challenge.RW_bellnest_k74_mended_too_many
noncomputable section
set_option Elab.async false
set_option linter.all false
set_option maxRecDepth 100000
open PySem.W (Frag cellsFrom_some codeIn findCls fnOf instObj isFn kitx_dict kitx_list makesIn methodCall_KW methodObj mg_none_of mg_of plainGet plainGet_of plainOver readsIn takerIn)
open List (all_eq_true any_cons append_assoc append_nil cons_append filterMap_cons find?_cons flatMap_cons flatten_cons foldl_cons forIn_cons forall_mem_cons getElem?_append_left getElem?_append_right getElem?_cons_succ getElem?_cons_zero getElem?_eq_getElem getElem?_eq_none getElem?_map getElem?_range getElem?_replicate getElem?_set_ne getElem?_set_self getElem_mem getElem_of_mem length_append length_cons length_drop length_map length_nil length_range length_replicate length_set length_singleton length_take lookup_cons map_append map_congr_left map_cons map_map map_nil mem_append mem_append_left mem_append_right mem_cons mem_cons_of_mem mem_cons_self mem_map mem_of_getElem? mem_range mem_singleton nil_append nodup_append nodup_cons of_mem_zip replicate replicate_succ reverse_cons set_cons_succ set_cons_zero size_toArray sum_cons zip_cons_cons)
open PySem.Heap (get?_none_of_le get?_push_of_some get?_push_size get?_update_other get?_update_self lt_size size_push)
open Nat (le_of_eq le_of_lt le_refl le_succ le_trans lt_irrefl lt_of_lt_of_le lt_trans ne_of_gt ne_of_lt reduceAdd reduceSub sub_self zero_le)
open Array (getElem?_toList length_toList)
open Int (toNat_natCast)
set_option compiler.extract_closed false
section
set_option hygiene false
namespace L2
open PySem PySem.Spec PyProof.Rows
abbrev Key:=Sum Int Str
def Fp:Key->Value->Bool
 |.inl k,v=>Value.isInt k v
 |.inr x,v=>Value.isStrOf x v
def Kg(w:World):Key->Int
 |.inl k=>hashInt k
 |.inr x=>hashStr w x
theorem bT:∀{k:Key}{v:Value},Fp k v=true->(∃i t,k=Sum.inl i/\v=Value.int i t)\/(∃x t,k=Sum.inr x/\v=Value.str x t)
 |.inl i,v,h=>by
  obtain⟨t,e⟩:=Value.isInt_shape (k:=i) (v:=v) h;exact .inl ⟨i,t,rfl,e⟩
 |.inr x,v,h=>by
  obtain⟨t,e⟩:=Value.isStrOf_shape (x:=x) (v:=v) h;exact .inr ⟨x,t,rfl,e⟩
theorem GI(a b:Int):decide ((Sum.inl a:Key)=Sum.inl b)=(a == b):=by
 by_cases e:a=b
 ·subst e;simp
 ·have h:¬(Sum.inl a:Key)=Sum.inl b:=λq=>e (Sum.inl.inj q);rw[decide_eq_false h];exact(beq_eq_false_iff_ne.mpr e).symm
theorem GF(a b:Str):decide ((Sum.inr a:Key)=Sum.inr b)=decide (a=b):=by
 by_cases e:a=b
 ·subst e;simp
 ·have h:¬(Sum.inr a:Key)=Sum.inr b:=λq=>e (Sum.inr.inj q);rw[decide_eq_false h,decide_eq_false e]
theorem GH(a:Int)(b:Str):decide ((Sum.inl a:Key)=Sum.inr b)=false:=decide_eq_false (λq=>nomatch q)
theorem GG(a:Str)(b:Int):decide ((Sum.inr a:Key)=Sum.inl b)=false:=decide_eq_false (λq=>nomatch q)
def xO(prog:Program)(w:World):PySem.KeyKind prog w Key where
 is:=Fp
 hash:=Kg w
 inj:=λv a b ha hb=>by
  rcases bT ha with⟨i,t,rfl,rfl⟩|⟨x,t,rfl,rfl⟩
  ·rcases bT hb with⟨j,u,rfl,e⟩|⟨y,u,rfl,e⟩
   ·injection e with e1 _;rw[e1]
   ·exact nomatch e
  ·rcases bT hb with⟨j,u,rfl,e⟩|⟨y,u,rfl,e⟩
   ·exact nomatch e
   ·injection e with e1 _;rw[e1]
 byValue:=λk v h=>by
  rcases bT h with⟨i,t,rfl,rfl⟩|⟨x,t,rfl,rfl⟩ <;> rfl
 pyHash:=λhv h=>by
  rcases bT hv with⟨i,t,rfl,rfl⟩|⟨x,t,rfl,rfl⟩
  ·exact wpAny_pyHash_int h
  ·exact wpAny_pyHash_str h
 eqBool:=λhu hv h=>by
  rcases bT hu with⟨i,t,rfl,rfl⟩|⟨x,t,rfl,rfl⟩
  ·rcases bT hv with⟨j,u,rfl,rfl⟩|⟨y,u,rfl,rfl⟩
   ·rw[GI] at h;exact wpAny_eqBool_int h
   ·rw[GH] at h;exact SeqAt.EqAt.int_str i t y u _ _ _ _ h
  ·rcases bT hv with⟨j,u,rfl,rfl⟩|⟨y,u,rfl,rfl⟩
   ·rw[GG] at h;exact SeqAt.EqAt.str_int x t j u _ _ _ _ h
   ·rw[GF] at h;exact wpAny_eqBool_str h
 «strs»:=λk x t v h=>by
  rcases bT h with⟨i,u,rfl,e⟩|⟨y,u,rfl,e⟩
  ·exact nomatch e
  ·injection e with e1 _;subst e1;cases v <;> rfl
inductive V where
 |non|bl (b:Bool)|int (i:Int)|str (x:Str)|byt (b:Array UInt8)|flt (b:UInt64)|ref (a:Addr)|ty (n:String)
 deriving DecidableEq
def RelV:V->Value->Prop
 |.non,u=>u=Value.none
 |.bl b,u=>u=Value.bool b
 |.int i,u=>∃t,u=Value.int i t
 |.str x,u=>∃t,u=Value.str x t
 |.byt b,u=>∃t,u=Value.bytes b t
 |.flt b,u=>∃t,u=Value.float b t
 |.ref a,u=>u=Value.ref a
 |.ty n,u=>u=Value.type n
abbrev Vals:List V->List Value->Prop:=Paired RelV
theorem Vals.length{xs:List V}{us:List Value}(r:Vals xs us):xs.length=us.length:=Paired.length r
theorem Vals.get:∀{xs:List V}{us:List Value}{i:Nat}{x:V},Vals xs us->xs[i]?=some x->∃u,us[i]?=some u/\RelV x u
 |_,_,_,_,.nil,e=>by simp at e
 |_,_,0,_,.cons r _,e=>by simp at e;subst e;exact⟨_,rfl,r⟩
 |_,_,i+1,x,.cons _ t,e=>by
  obtain⟨u,h1,h2⟩:=Vals.get (i:=i) (x:=x) t (by simpa using e)
  exact⟨u,by simpa using h1,h2⟩
theorem Vals.set{x:V}{u:Value}(r:RelV x u):∀{xs:List V}{us:List Value}(i:Nat),Vals xs us->Vals (xs.set i x) (us.set i u)
 |_,_,_,.nil=>.nil
 |_,_,0,.cons _ t=>.cons r t
 |_,_,i+1,.cons q t=>.cons q (Vals.set r i t)
theorem Vals.append:∀{xs ys:List V}{us ws:List Value},Vals xs us->Vals ys ws->Vals (xs++ys) (us++ws)
 |_,_,_,_,.nil,s=>s
 |_,_,_,_,.cons r t,s=>.cons r (Vals.append t s)
theorem Vals.take:∀{xs:List V}{us:List Value}(n:Nat),Vals xs us->Vals (xs.take n) (us.take n)
 |_,_,0,_=>.nil
 |_,_,_+1,.nil=>.nil
 |_,_,n+1,.cons r t=>.cons r (Vals.take n t)
theorem Vals.drop:∀{xs:List V}{us:List Value}(n:Nat),Vals xs us->Vals (xs.drop n) (us.drop n)
 |_,_,0,r=>r
 |_,_,_+1,.nil=>.nil
 |_,_,n+1,.cons _ t=>Vals.drop n t
theorem Vals.none_of:∀{xs:List V}{us:List Value}{i:Nat},Vals xs us->xs[i]?=none->us[i]?=none:=λ{xs us i} r e=>by
 have h1:=r.length;have h2:xs.length<=i:=List.getElem?_eq_none_iff.mp e;exact List.getElem?_eq_none_iff.mpr (by omega)
def RelO:Option V->Option Value->Prop
 |some v,some u=>RelV v u
 |none,none=>True
 |_,_=>False
def KV{κ:Type}:List (κ×V)->List (κ×Value)->Prop:=Paired λ(p:κ×V)(q:κ×Value)=>p.1=q.1/\RelV p.2 q.2
def kV:Key->V
 |.inl i=>.int i
 |.inr x=>.str x
inductive HO where
 |lst (xs:List V)
 |tup (xs:List V)
 |dK (kvs:List (Key×V))|dT (kvs:List (List Key×V))
 |set (S:Int->Bool) (n:Nat)
 |ins (C dx:Addr) (fs:List (Str×V))
 |own (x:Addr)
 |xd (fs:List (Str×V))
 |met (f x:Addr)
 |rng (lo hi:Int)
 |frz (o:Obj) (u:HO)
 |tbl (ps:Array Value)
 |tab (good:Pos->Option Str)
 |fnc (c:Addr) (q:Str)
 |ext (φ:Heap->Prop)
abbrev Hp:=Addr->Option HO
def aS(H:Hp)(a:Addr)(o:HO):Hp:=λb=>if b=a then some o else H b
theorem aq{H:Hp}{a:Addr}{o:HO}:aS H a o a=some o:=by unfold aS;rw[if_pos rfl]
theorem ak{H:Hp}{a b:Addr}{o:HO}(h:b≠a):aS H a o b=H b:=by unfold aS;rw[if_neg h]
theorem aC{H:Hp}{a b:Addr}{o:HO}(h:H a=some o)(h':H b=none):a≠b:=by
 intro e;subst e;rw[h] at h';cases h'
section
variable(P:Program)(w:World)
def aY(H:Hp)(h:Heap)(a:Addr):HO->Prop
 |.lst xs=>xs.length<=sizeLine/\∃(its:List Value)(n:Nat),Vals xs its/\h.get? a=some {cls:=.type "list",data:=.seq its.toArray n}
 |.tup xs=>xs.length<=sizeLine/\∃its:List Value,Vals xs its/\IsTup h a its.toArray
 |.dK kvs=>kvs.length<=sizeLine/\(a == sysModules)=false/\∃vs,KV kvs vs/\h.DictOf (xO P w) a vs
 |.dT kvs=>kvs.length<=sizeLine/\(a == sysModules)=false/\∃xs:List (List Key×Addr×Value),
   Paired (λ(p:List Key×V)(q:List Key×Addr×Value)=>p.1=q.1/\H q.2.1=some (.tup (p.1.map kV))/\RelV p.2 q.2.2) kvs xs/\
   ∃o es ep,h.get? a=some o/\o.ExactDict/\o.data=.dict es ep/\es.toList=xs.map (entryOfKey (tupleKind (xO P w)))/\(xs.map (·.1)).Nodup
 |.set S n=>h.SetOf (intKind P w) a S n
 |.ins C dx fs=>H dx=some (.own a)/\fs.length<=1000/\dx≠a/\h.get? a=some (instObj C dx)/\
   ∃mA,h.Ns1 dx mA/\(∀f,RelO (fs.lookup f) (mA f))/\PySem.Within mA (fs.map (·.1))
 |.own _=>∃o,h.get? a=some o
 |.xd fs=>∃mA,h.Ns1 a mA/\∀f,RelO (fs.lookup f) (mA f)
 |.rng lo hi=>∃t u v,h.get? a=some {cls:=.type "range",data:=.fields #[.int lo t,.int hi u,.int 1 v]}
 |.frz o u=>h.get? a=some o/\aY H h a u
 |.tbl ps=>h.get? a=some {cls:=.none,data:=.fields ps}
 |.tab good=>∃ps:Array Value,h.get? a=some {cls:=.none,data:=.fields ps}/\TriplesOk ps.toList/\∀p cv,(good p).isSome=true->codeAmong p ps.toList=some cv->∃(c:Addr)(oc:Obj)(q:Str)(vs:Array Value)(t:Tok),cv=.ref c/\H c=some (.frz oc (.own c))/\good p=some q/\oc.data=.fields vs/\vs[1]?=some (.str q t)
 |.fnc c q=>(∃o,h.get? a=some o)/\∃(oc:Obj)(vs:Array Value)(t:Tok),H c=some (.frz oc (.own c))/\oc.data=.fields vs/\vs[1]?=some (.str q t)
 |.met f x=>h.get? a=some (methodObj (.ref f) (.ref x))
 |.ext φ=>φ h/\(∃o,h.get? a=some o)/\∀h1 h2:Heap,φ h1->(∀o,h1.get? a=some o->h2.get? a=some o)->φ h2
def jB(H:Hp)(h:Heap):Prop:=∀a o,H a=some o->aY P w H h a o
end
section
variable{P:Program}{w:World}{H H':Hp}{h h':Heap}{a:Addr}{o:HO}
theorem aY.lt(x:aY P w H h a o):a<h.objs.size:=by
 cases o with
 |lst xs=>obtain⟨_,_,_,_,e⟩:=x;exact lt_size e
 |tup xs=>obtain⟨_,_,_,p⟩:=x;exact p.lt
 |dK kvs=>obtain⟨_,_,_,_,o,_,_,e,_⟩:=x;exact lt_size e
 |dT kvs=>obtain⟨_,_,_,_,o,_,_,e,_⟩:=x;exact lt_size e
 |set S n=>obtain⟨o,_,_,_,e,_⟩:=x;exact lt_size e
 |ins C dx fs=>obtain⟨_,_,_,e,_⟩:=x;exact lt_size e
 |own y=>obtain⟨_,e⟩:=x;exact lt_size e
 |xd fs=>obtain⟨_,⟨_,_,_,e,_⟩,_⟩:=x;exact lt_size e
 |rng lo hi=>obtain⟨_,_,_,e⟩:=x;exact lt_size e
 |frz ob u=>obtain⟨e,_⟩:=x;exact lt_size e
 |tbl ps=>exact lt_size (show h.get? a=some _ from x)
 |tab good=>obtain⟨_,e,_⟩:=x;exact lt_size e
 |fnc c q=>obtain⟨⟨_,e⟩,_⟩:=x;exact lt_size e
 |met f y=>exact lt_size (show h.get? a=some _ from x)
 |ext φ=>obtain⟨_,⟨_,e⟩,_⟩:=x;exact lt_size e
theorem Paired.mapP{α β:Type}{F G:α->β->Prop}:∀{l₁:List α}{l₂:List β},Paired F l₁ l₂->(∀a b,F a b->G a b)->Paired G l₁ l₂
 |_,_,.nil,_=>.nil
 |_,_,.cons r t,f=>.cons (f _ _ r) (Paired.mapP t f)
theorem Paired.imp'{α β:Type}{F G:α->β->Prop}(f:∀a b,F a b->G a b){l₁:List α}{l₂:List β}(r:Paired F l₁ l₂):Paired G l₁ l₂:=Paired.mapP r f
theorem aY.stay(x:aY P w H h a o)(k:∀b u,(b=a\/H b=some (.own a))->h.get? b=some u->h'.get? b=some u)
  (ho:∀b,H b=some (.own a)->H' b=some (.own a)) (ht:∀b xs,H b=some (.tup xs)->H' b=some (.tup xs)) (hf:∀b ob y,H b=some (.frz ob (.own y))->H' b=some (.frz ob (.own y))):aY P w H' h' a o:=by
 induction o with
 |lst xs=>obtain⟨z,its,n,r,e⟩:=x;exact⟨z,its,n,r,k _ _ (.inl rfl) e⟩
 |tup xs=>obtain⟨z,its,r,ob,e,c⟩:=x;exact⟨z,its,r,ob,k _ _ (.inl rfl) e,c⟩
 |dK kvs=>obtain⟨z,y,vs,r,ob,es,ep,e,c⟩:=x;exact⟨z,y,vs,r,ob,es,ep,k _ _ (.inl rfl) e,c⟩
 |dT kvs=>
  obtain⟨z,y,xs,r,ob,es,ep,e,c⟩:=x;exact⟨z,y,xs,Paired.mapP r λp q z=>⟨z.1,ht _ _ z.2.1,z.2.2⟩,ob,es,ep,k _ _ (.inl rfl) e,c⟩
 |set S n=>obtain⟨ob,es,ep,t,e,c⟩:=x;exact⟨ob,es,ep,t,k _ _ (.inl rfl) e,c⟩
 |ins C dx fs=>
  obtain⟨d,z,ne,e,mA,⟨od,es,ep,e2,c⟩,r⟩:=x;exact⟨ho _ d,z,ne,k _ _ (.inl rfl) e,mA,⟨od,es,ep,k _ _ (.inr d) e2,c⟩,r⟩
 |own y=>obtain⟨ob,e⟩:=x;exact⟨ob,k _ _ (.inl rfl) e⟩
 |xd fs=>obtain⟨mA,⟨od,es,ep,e,c⟩,r⟩:=x;exact⟨mA,⟨od,es,ep,k _ _ (.inl rfl) e,c⟩,r⟩
 |rng lo hi=>obtain⟨t,u,v,e⟩:=x;exact⟨t,u,v,k _ _ (.inl rfl) e⟩
 |frz ob u ih=>obtain⟨e,q⟩:=x;exact⟨k _ _ (.inl rfl) e,ih q⟩
 |tbl ps=>
  have e:h.get? a=some {cls:=.none,data:=.fields ps}:=x;show h'.get? a=some {cls:=.none,data:=.fields ps};exact k a _ (.inl rfl) e
 |tab good=>
  obtain⟨ps,e,tr,q⟩:=x;refine⟨ps,k a _ (.inl rfl) e,tr,λp cv hg hc=>?_⟩;obtain⟨c,oc,qq,vs,t,e1,e2,e3⟩:=q p cv hg hc;exact⟨c,oc,qq,vs,t,e1,hf _ _ _ e2,e3⟩
 |fnc c q=>
  obtain⟨⟨ob,e⟩,oc,vs,t,e1,e2⟩:=x;exact⟨⟨ob,k _ _ (.inl rfl) e⟩,oc,vs,t,hf _ _ _ e1,e2⟩
 |met f y=>
  have e:h.get? a=some (methodObj (.ref f) (.ref y)):=x;show h'.get? a=some (methodObj (.ref f) (.ref y));exact k a _ (.inl rfl) e
 |ext φ=>obtain⟨p,⟨o,e⟩,st⟩:=x;exact⟨st _ _ p λo q=>k _ _ (.inl rfl) q,⟨o,k _ _ (.inl rfl) e⟩,st⟩
theorem jB.lt(x:jB P w H h)(e:H a=some o):a<h.objs.size:=(x a o e).lt
theorem jB.fresh(x:jB P w H h)(e:h.objs.size<=a):H a=none:=by
 cases q:H a with
 |none=>rfl
 |some u=>exact absurd (lt_of_lt_of_le (x.lt q) e) (lt_irrefl _)
theorem jB.kept(x:jB P w H h)(k:∀b u,h.get? b=some u->h'.get? b=some u):jB P w H h':=λa o e=>
 (x a o e).stay (λb u _ q=>k b u q) (λ_ q=>q) (λ_ _ q=>q) λ_ _ _ q=>q
theorem jB.laid(x:jB P w H h)(k:∀b u,h.get? b=some u->h'.get? b=some u)(hp:h.objs.size<=a)(new:aY P w (aS H a o) h' a o):jB P w (aS H a o) h':=λb u e=>by
 have hn:=x.fresh hp;by_cases hb:b=a
 ·subst hb;rw[aq] at e;cases e;exact new
 ·rw[ak hb] at e;exact(x b u e).stay (λc v _ q=>k c v q) (λc q=>by rw[ak (aC q hn)];exact q) (λc xs q=>by rw[ak (aC q hn)];exact q) λc ob u q=>by rw[ak (aC q hn)];exact q
end
def Rd(H:Hp)(a:Addr)(u:HO):Prop:=H a=some u\/∃o,H a=some (.frz o u)
theorem Rd.of{H:Hp}{a:Addr}{u:HO}(h:H a=some u):Rd H a u:=.inl h
theorem Rd.ok{P:Program}{w:World}{H:Hp}{h:Heap}{a:Addr}{u:HO}(r:Rd H a u)(x:jB P w H h):aY P w H h a u:=by
 rcases r with r|⟨o,r⟩
 ·exact x a u r
 ·obtain⟨_,q⟩:=x a _ r;exact q
def Jr:Option HO->Prop
 |some (.lst _)=>True
 |some (.dK _)=>True
 |some (.dT _)=>True
 |some (.set _ _)=>True
 |some (.ins _ _ _)=>True
 |some (.ext _)=>True
 |_=>False
section
variable{P:Program}{w:World}{H:Hp}{h h':Heap}{x e:Addr}{o':HO}
theorem jB.write(ok:jB P w H h)(mu:Jr (H x))(he:e=x\/H e=some (.own x))(k:∀b u,b≠e->h.get? b=some u->h'.get? b=some u)(heo:∃u,h'.get? e=some u)
  (new:aY P w (aS H x o') h' x o'):jB P w (aS H x o') h':=λb u q=>by
 have nown:∀c y,H c=some (.own y)->c≠x:=λc y r z=>by subst z;rw[r] at mu;exact mu
 have ntup:∀c xs,H c=some (.tup xs)->c≠x:=λc xs r z=>by subst z;rw[r] at mu;exact mu
 have nfrz:∀c ob u,H c=some (.frz ob u)->c≠x:=λc ob u r z=>by subst z;rw[r] at mu;exact mu
 by_cases hb:b=x
 ·subst hb;rw[aq] at q;cases q;exact new
 ·rw[ak hb] at q;by_cases hbe:b=e
  ·have q':H b=some (.own x):=by
    rcases he with z|z
    ·exact absurd (hbe.trans z) hb
    ·rw[hbe];exact z
   rw[q] at q';cases q';obtain⟨v,hv⟩:=heo;exact⟨v,by rw[hbe];exact hv⟩
  ·refine(ok b u q).stay (λc v hc r=>k c v ?_ r) (λc r=>by rw[ak (nown c b r)];exact r) (λc xs r=>by rw[ak (ntup c xs r)];exact r) λc ob v r=>by rw[ak (nfrz c ob _ r)];exact r
   rcases hc with rfl|hc
   ·exact hbe
   ·rintro rfl
    rcases he with z|z
    ·exact nown c b hc z
    ·rw[hc] at z;cases z;exact hb rfl
end
structure Un(fs ex:List Addr)(H H':Hp)(h h':Heap):Prop where
 keep:∀b o,h.get? b=some o->H b=none->b∉fs->b∉ex->h'.get? b=some o
 slot:∀b o,h.get? b=some o->H b=none->b∈fs->b∉ex->∃sl,h'.get? b=some {o with slots:=sl}
 free:∀b o,h.get? b=some o->H b=none->b∉ex->H' b=none
 there:∀b o,h.get? b=some o->b∉ex->∃o',h'.get? b=some o'
 tups:∀b xs,H b=some (.tup xs)->H' b=some (.tup xs)
 frzs:∀b o u,H b=some (.frz o u)->H' b=some (.frz o u)
 tbls:∀b ps,H b=some (.tbl ps)->∃more,H' b=some (.tbl (ps++more))
section
variable{fs fs' ex ex':List Addr}{H H1 H2:Hp}{h h1 h2 h':Heap}{a x e:Addr}{o:HO}
theorem Un.any(u:Un fs ex H H1 h h1){b:Addr}{ob:Obj}(q:h.get? b=some ob)(n:H b=none)(hx:b∉ex):∃sl,h1.get? b=some {ob with slots:=sl}:=by
 by_cases hb:b∈fs
 ·exact u.slot b ob q n hb hx
 ·exact⟨ob.slots,u.keep b ob q n hb hx⟩
theorem Un.trans(a:Un fs ex H H1 h h1)(b:Un fs ex H1 H2 h1 h2):Un fs ex H H2 h h2 where
 keep:=λc ob q n hc hx=>b.keep c ob (a.keep c ob q n hc hx) (a.free c ob q n hx) hc hx
 slot:=λc ob q n hc hx=>by
  obtain⟨sl,e1⟩:=a.slot c ob q n hc hx;obtain⟨sl',e2⟩:=b.slot c _ e1 (a.free c ob q n hx) hc hx;exact⟨sl',e2⟩
 free:=λc ob q n hx=>by
  obtain⟨o',e1⟩:=a.there c ob q hx;exact b.free c o' e1 (a.free c ob q n hx) hx
 there:=λc ob q hx=>by
  obtain⟨o',e1⟩:=a.there c ob q hx;exact b.there c o' e1 hx
 tups:=λc xs q=>b.tups c xs (a.tups c xs q)
 frzs:=λc ob xs q=>b.frzs c ob xs (a.frzs c ob xs q)
 tbls:=λc ps q=>by
  obtain⟨m1,e1⟩:=a.tbls c ps q;obtain⟨m2,e2⟩:=b.tbls c _ e1;exact⟨m1++m2,by rw[e2,Array.append_assoc]⟩
theorem Un.kept(k:∀b u,h.get? b=some u->h'.get? b=some u):Un fs ex H H h h':=
 ⟨λb ob q _ _ _=>k b ob q,λb ob q _ _ _=>⟨ob.slots,k b ob q⟩,λ_ _ _ n _=>n,λb ob q _=>⟨ob,k b ob q⟩,λ_ _ q=>q,λ_ _ _ q=>q,λ_ ps q=>⟨#[],by rw[q];simp⟩⟩
theorem Un.refl:Un fs ex H H h h:=Un.kept λ_ _ q=>q
theorem Un.laid(k:∀b u,h.get? b=some u->h'.get? b=some u)(hp:h.objs.size<=a)(hn:H a=none):Un fs ex H (aS H a o) h h' where
 keep:=λb u q _ _ _=>k b u q
 slot:=λb u q _ _ _=>⟨u.slots,k b u q⟩
 free:=λb u q n _=>by rw[ak (ne_of_lt (lt_of_lt_of_le (lt_size q) hp))];exact n
 there:=λb u q _=>⟨u,k b u q⟩
 tups:=λb xs q=>by rw[ak (aC q hn)];exact q
 frzs:=λb u xs q=>by rw[ak (aC q hn)];exact q
 tbls:=λb ps q=>⟨#[],by rw[ak (aC q hn),q];simp⟩
theorem Un.write(mu:Jr (H x))(he:e=x\/H e=some (.own x))(k:∀b u,b≠e->h.get? b=some u->h'.get? b=some u)(heo:∃u,h'.get? e=some u):Un fs ex H (aS H x o) h h':=by
 have hx:∀b,H b=none->b≠x:=λb n z=>by subst z;rw[n] at mu;exact mu
 have hb:∀b,H b=none->b≠e:=λb n z=>by
  subst z;rcases he with r|r
  ·exact hx b n r
  ·rw[n] at r;cases r
 have hm:∀b u,H b=some u->¬Jr (some u)->b≠x:=λb u q nm z=>by subst z;rw[q] at mu;exact nm mu
 refine⟨λb u q n _ _=>k b u (hb b n) q,λb u q n _ _=>⟨u.slots,k b u (hb b n) q⟩,λb u q n _=>by rw[ak (hx b n)];exact n,λb u q _=>?_,
  λb xs q=>by rw[ak (hm b _ q λz=>z)];exact q,λb u xs q=>by rw[ak (hm b _ q λz=>z)];exact q,λb ps q=>⟨#[],by rw[ak (hm b _ q λz=>z),q];simp⟩⟩
 by_cases hbe:b=e
 ·subst hbe;exact heo
 ·exact⟨u,k b u hbe q⟩
theorem Un.mono(u:Un fs ex H H1 h h1)(hs:∀b∈fs,b∈fs')(hx:∀b∈ex,b∈ex'):Un fs' ex' H H1 h h1:=
 ⟨λb ob q n hb he=>u.keep b ob q n (λz=>hb (hs b z)) λz=>he (hx b z),λ_ _ q n _ he=>u.any q n λz=>he (hx _ z),λb ob q n he=>u.free b ob q n λz=>he (hx b z),λb ob q he=>u.there b ob q λz=>he (hx b z),u.tups,u.frzs,u.tbls⟩
end
def Jv(h:Heap)(H:Hp):List Addr:=(List.range h.objs.size).filter λa=>(H a).isSome
def iZ(h:Heap)(H:Hp):Heap:=PySem.W.hideAll h (Jv h H)
theorem qc(h:Heap)(H:Hp):(iZ h H).objs.size=h.objs.size:=PySem.W.hideAll_size _ _
theorem uC{h:Heap}{H:Hp}{b:Addr}{o:Obj}(e:h.get? b=some o)(n:H b=none):(iZ h H).get? b=some o:=
 PySem.W.hideAll_get _ e λhm=>by
  have q:(H b).isSome=true:=(List.mem_filter.mp hm).2;rw[n] at q;simp at q
theorem xM{h:Heap}{H:Hp}{b:Addr}{o:Obj}(e:(iZ h H).get? b=some o):h.get? b=some o/\H b=none:=by
 have e':h.get? b=some o:=PySem.W.of_hideAll (Jv h H) e;refine⟨e',?_⟩;cases q:H b with
 |none=>rfl
 |some x=>
  have hm:b∈Jv h H:=List.mem_filter.mpr ⟨mem_range.mpr (lt_size e'),by simp[q]⟩
  have z:(iZ h H).get? b=none:=PySem.W.hideAll_none (Jv h H) hm;rw[z] at e;cases e
def EX(g h:Heap)(L:Addr):List (Addr×Obj):=(List.range h.objs.size).filterMap λa=>if a=L\/(g.get? a).isSome=true then none else(h.get? a).map λo=>(a,o)
def rest(g h:Heap)(L d:Addr):List (Addr×Obj):=(EX g h L).filter λp=>decide (p.1≠d)
structure Mod(K:Frag)(mg:Str->Option Value)(base:Heap):Prop where
 kin:K.In base
 glob:base.Ns mainGlobals mg
 blt:∃mb,base.Ns builtinsNs mb/\∀x:Str,x ≠ "__name__" -> mb x=bootBuiltins x
 nolimit:base.NoLimit
structure Cx where
 prog:Program
 w:World
 K:Frag
 mg:Str->Option Value
 base:Heap
 A:Around
 N:List Str
 s₀:Shared
 H₀:Hp
 env:Env
 outer:List Env
 stack:List Env
 ex:List Addr
 fn:Str->Bool
 calm:Bool
 pn:List (Addr×Obj)
 xe:Value->Shared->Prop
def frs(l:List Env):List Addr:=l.filterMap (·.frame)
abbrev Cx.fs(X:Cx):List Addr:=frs X.outer
def qy(sc:Scope)(x:Str):Prop:=sc.names.lookup x=some .local\/sc.names.lookup x=some .cell\/sc.names.lookup x=some .free
def CB(sc:Scope)(x:Str):Prop:=sc.names.lookup x=some .local\/sc.names.lookup x=some .cell
def Hz(env:Env)(h:Heap)(m:Str->Option Value)(x:Str)(u:Value):Prop:=
 (env.kindOf x=some .local/\m x=some u)\/((env.kindOf x=some .cell\/env.kindOf x=some .free)/\∃c,env.cells.lookup x=some c/\h.IsCell c (some u))
structure Cx.Ok(X:Cx):Prop where
 mod:Mod X.K X.mg X.base
 kind:X.env.scope.kind=.function
 glob:X.env.globals=mainGlobals
 blt:X.env.builtins=builtinsNs
 above:X.s₀.heap.objs.size<=X.env.locals
 inj:∀x y c,X.env.cells.lookup x=some c->X.env.cells.lookup y=some c->x=y
 has:∀x,(X.env.kindOf x=some .cell\/X.env.kindOf x=some .free)->∃c,X.env.cells.lookup x=some c
 cab:∀x c,X.fn x=true->X.env.cells.lookup x=some c->X.s₀.heap.objs.size<=c
 hd:X.calm=true->X.A.handled=none
 frames:X.A.frames=some X.stack
 stk:X.stack=X.outer\/(X.stack=X.env::X.outer/\X.env.frame=some X.env.locals)
 exf:∀b∈X.ex,b≠X.env.locals/\∀x c,X.env.cells.lookup x=some c->c≠b
 bs:∀b o,X.base.get? b=some o->X.s₀.heap.get? b=some o/\X.H₀ b=none
 bsz:X.base.objs.size<=X.s₀.heap.objs.size
 noex:∀b o,X.base.get? b=some o->b∉X.ex
 exfs:∀b∈X.ex,b∉X.fs
 funs:X.s₀.heap.FunFrames X.base X.outer
 frf:∀b∈X.fs,X.H₀ b=none
structure ay(X:Cx)(pins:List (Addr×Obj))(σ:List (Option V))(H:Hp)(s:Shared):Prop where
 ok:X.Ok
 os:s.os=X.s₀.os
 bare:AllBare s.gens
 base:Un X.fs X.ex X.H₀ H X.s₀.heap s.heap
 loc:∃m,s.heap.Ns X.env.locals m/\∀(i:Nat)(x:Str)(v:V),X.N[i]?=some x->σ[i]?=some (some v)->qy X.env.scope x->∃u,RelV v u/\Hz X.env s.heap m x u
 cell:∀x c,X.env.cells.lookup x=some c->∃v,s.heap.IsCell c v
 free:H X.env.locals=none
 freeC:∀x c,X.env.cells.lookup x=some c->H c=none
 pin:∀p∈X.pn++pins,s.heap.get? p.1=some p.2/\H p.1=none/\p.1≠X.env.locals/\p.1∉X.fs/\∀v,p.2.data≠.cell v
 hok:jB X.prog X.w H s.heap
 len:σ.length=X.N.length
section
variable{X:Cx}{pins:List (Addr×Obj)}{σ:List (Option V)}{H H':Hp}{s:Shared}{h':Heap}
theorem Cx.Ok.nofr(ok:X.Ok){b:Addr}{o:Obj}(e:X.base.get? b=some o):b∉X.fs:=λhb=>by
 have:=(ok.funs.mem hb).1;rw[e] at this;cases this
theorem ay.bs(I:ay X pins σ H s):∀b o,X.base.get? b=some o->s.heap.get? b=some o/\H b=none:=λb o e=>
 ⟨I.base.keep b o (I.ok.bs b o e).1 (I.ok.bs b o e).2 (I.ok.nofr e) (I.ok.noex b o e),I.base.free b o (I.ok.bs b o e).1 (I.ok.bs b o e).2 (I.ok.noex b o e)⟩
theorem ay.bk(I:ay X pins σ H s):∀b o,X.base.get? b=some o->s.heap.get? b=some o:=λb o e=>(I.bs b o e).1
theorem ay.mod(I:ay X pins σ H s):Mod X.K X.mg X.base:=I.ok.mod
theorem ay.kIn(I:ay X pins σ H s):X.K.In s.heap:=I.ok.mod.kin.keeps I.bk
theorem ay.nolimit(I:ay X pins σ H s):s.heap.NoLimit:=I.ok.mod.nolimit.keeps I.bk
theorem ay.fr(I:ay X pins σ H s):∃m,Fr X.base X.env.locals s.heap m:=
 let ⟨m,hn,_⟩:=I.loc
 ⟨m,hn,I.bk,le_trans I.ok.bsz I.ok.above⟩
theorem ay.lt(I:ay X pins σ H s):X.env.locals<s.heap.objs.size:=let ⟨_,hn,_⟩:=I.loc;hn.lt
theorem ay.sz(I:ay X pins σ H s):X.s₀.heap.objs.size<=s.heap.objs.size:=le_trans I.ok.above (le_of_lt I.lt)
theorem ay.nofs(I:ay X pins σ H s){a:Addr}(h:s.heap.objs.size<=a):a∉X.fs:=λhb=>by
 obtain⟨_,o,ho,_⟩:=I.ok.funs.mem hb;exact absurd (lt_of_lt_of_le (lt_size ho) (le_trans I.sz h)) (lt_irrefl _)
theorem ay.cne(I:ay X pins σ H s):∀x c,X.env.cells.lookup x=some c->c≠X.env.locals:=λx c e z=>by
 obtain⟨v,o,ho,hd⟩:=I.cell x c e;obtain⟨m,⟨o',es,ep,ho',hd',_⟩,_⟩:=I.loc;rw[z,ho'] at ho;cases ho;rw[hd'] at hd;cases hd
theorem ay.funs(I:ay X pins σ H s):s.heap.FunFrames X.base X.outer:=by
 have all:∀(l:List Env),(∀b∈frs l,b∈X.fs)->X.s₀.heap.FunFrames X.base l->s.heap.FunFrames X.base l:=by
  intro l
  induction l with
  |nil=>intro _ _;trivial
  |cons env r ih=>
   intro hs hl;obtain⟨hk,⟨L,o,hf,hn,ho,hd⟩,hr⟩:=hl;have hL:L∈X.fs:=hs L (by unfold frs;rw[filterMap_cons,hf];exact mem_cons_self)
   obtain⟨sl,e⟩:=I.base.slot L o ho (I.ok.frf L hL) hL λz=>I.ok.exfs L z hL;exact⟨hk,⟨L,_,hf,hn,e,hd⟩,ih (λb hb=>hs b (by unfold frs;rw[filterMap_cons,hf];exact mem_cons_of_mem _ hb)) hr⟩
 exact all X.outer (λ_ hb=>hb) I.ok.funs
theorem ay.stack(I:ay X pins σ H s):s.heap.FunFrames X.base X.stack:=by
 rcases I.ok.stk with e|⟨e,hf⟩
 ·rw[e];exact I.funs
 ·rw[e];obtain⟨m,hn,_⟩:=I.loc;refine .cons (by rw[I.ok.kind];decide) hf hn ?_ I.funs
  exact get?_none_of_le (le_trans I.ok.bsz I.ok.above)
theorem ay.stkSub(I:ay X pins σ H s):∀b∈frs X.stack,b∈X.env.locals::X.fs:=λb hb=>by
 rcases I.ok.stk with e|⟨e,hf⟩
 ·rw[e] at hb;exact mem_cons_of_mem _ hb
 ·rw[e] at hb;unfold frs at hb;rw[filterMap_cons,hf] at hb;exact hb
theorem ay.stkFree(I:ay X pins σ H s):∀b∈frs X.stack,H b=none:=λb hb=>by
 rcases mem_cons.mp (I.stkSub b hb) with e|hb
 ·rw[e];exact I.free
 ·obtain⟨_,o,ho,_⟩:=I.ok.funs.mem hb;exact I.base.free b o ho (I.ok.frf b hb) λz=>I.ok.exfs b z hb
theorem ay.step{g':Array GenState}{t':Nat}{d':Drawn}{ch:List Addr}(I:ay X pins σ H s)
  (hch:∀b∈ch,(b∈X.ex\/X.s₀.heap.objs.size<=b)/\b≠X.env.locals/\(∀x c,X.env.cells.lookup x=some c->c≠b)/\∀p∈X.pn++pins,p.1≠b)
  (keep:∀b o,b≠X.env.locals->b∉X.fs->b∉ch->s.heap.get? b=some o->H b=none->h'.get? b=some o)
  (slot:∀b o,b≠X.env.locals->b∈X.fs->b∉ch->s.heap.get? b=some o->H b=none->∃sl,h'.get? b=some {o with slots:=sl}) (free:∀b o,b∉ch->s.heap.get? b=some o->H b=none->H' b=none)
  (there:∀b o,b∉ch->s.heap.get? b=some o->∃o',h'.get? b=some o')
  (tups:∀b xs,H b=some (.tup xs)->H' b=some (.tup xs)) (frzs:∀b o u,H b=some (.frz o u)->H' b=some (.frz o u)) (tbls:∀b ps,H b=some (.tbl ps)->∃more,H' b=some (.tbl (ps++more)))
  (ns:∀m,s.heap.Ns X.env.locals m->h'.Ns X.env.locals m) (hok:jB X.prog X.w H' h') (hg:AllBare g'):
  ay X pins σ H' {s with heap:=h',gens:=g',drawn:=d',toks:=t'}:=by
 have neL:∀b o,X.s₀.heap.get? b=some o->b≠X.env.locals:=λb o e=>ne_of_lt (lt_of_lt_of_le (lt_size e) I.ok.above);have neC:∀b o,X.s₀.heap.get? b=some o->b∉X.ex->b∉ch:=λb o e hx hb=>by
  rcases(hch b hb).1 with z|z
  ·exact hx z
  ·exact absurd (lt_of_lt_of_le (lt_size e) z) (lt_irrefl _)
 have cellK:∀x c,X.env.cells.lookup x=some c->∀v,s.heap.IsCell c v->h'.IsCell c v:=λx c e v ⟨o,ho,hd⟩=>by
  have nch:c∉ch:=λz=>(hch c z).2.2.1 x c e rfl;by_cases hc:c∈X.fs
  ·obtain⟨sl,q⟩:=slot c o (I.cne x c e) hc nch ho (I.freeC x c e);exact⟨_,q,hd⟩
  ·exact⟨o,keep c o (I.cne x c e) hc nch ho (I.freeC x c e),hd⟩
 refine⟨I.ok,I.os,hg,⟨λb o e n hb hx=>?_,λb o e n hb hx=>?_,λb o e n hx=>?_,λb o e hx=>?_,λb xs e=>tups b xs (I.base.tups b xs e),λb o xs e=>frzs b o xs (I.base.frzs b o xs e),λb ps e=>?_⟩,?_,λx c e=>?_,?_,λx c e=>?_,λp hp=>?_,hok,I.len⟩
 ·exact keep b o (neL b o e) hb (neC b o e hx) (I.base.keep b o e n hb hx) (I.base.free b o e n hx)
 ·obtain⟨sl,e1⟩:=I.base.slot b o e n hb hx;obtain⟨sl',e2⟩:=slot b _ (neL b o e) hb (neC b o e hx) e1 (I.base.free b o e n hx);exact⟨sl',e2⟩
 ·obtain⟨o',e1⟩:=I.base.there b o e hx;exact free b o' (neC b o e hx) e1 (I.base.free b o e n hx)
 ·obtain⟨o',e1⟩:=I.base.there b o e hx;exact there b o' (neC b o e hx) e1
 ·obtain⟨m1,e1⟩:=I.base.tbls b ps e;obtain⟨m2,e2⟩:=tbls b _ e1;exact⟨m1++m2,by rw[e2,Array.append_assoc]⟩
 ·obtain⟨m,hn,hl⟩:=I.loc;refine⟨m,ns m hn,λi x v e1 e2 e3=>?_⟩;obtain⟨u,r,l⟩:=hl i x v e1 e2 e3;refine⟨u,r,?_⟩;rcases l with l|⟨k,c,e,z⟩
  ·exact .inl l
  ·exact .inr ⟨k,c,e,cellK x c e _ z⟩
 ·obtain⟨v,z⟩:=I.cell x c e;exact⟨v,cellK x c e v z⟩
 ·obtain⟨m,⟨o,_,_,ho,_⟩,_⟩:=I.loc;exact free _ o (λz=>(hch _ z).2.1 rfl) ho I.free
 ·obtain⟨v,o,ho,hd⟩:=I.cell x c e;exact free c o (λz=>(hch c z).2.2.1 x c e rfl) ho (I.freeC x c e)
 ·obtain⟨e,n,ne,nf,d⟩:=I.pin p hp;have nch:p.1∉ch:=λz=>(hch p.1 z).2.2.2 p hp rfl;exact⟨keep p.1 p.2 ne nf nch e n,free p.1 p.2 nch e n,ne,nf,d⟩
theorem ay.un{t':Nat}(I:ay X pins σ H s)(u:Un X.fs [] H H' s.heap h')(hok:jB X.prog X.w H' h'):ay X pins σ H' {s with heap:=h',toks:=t'}:=by
 obtain⟨m,⟨o,es,ep,ho,r⟩,_⟩:=id I.loc;obtain⟨sl,hL⟩:=u.any ho I.free (by simp)
 exact I.step (g':=s.gens) (d':=s.drawn) (ch:=[]) (λ_ z=>nomatch z) (λb o _ hb _ e n=>u.keep b o e n hb (by simp)) (λb o _ hb _ e n=>u.slot b o e n hb (by simp)) (λb o _ e n=>u.free b o e n (by simp)) (λb o _ e=>u.there b o e (by simp)) u.tups u.frzs u.tbls (λm' hm=>by
  obtain⟨o',es',ep',ho',r'⟩:=hm;rw[ho] at ho';cases ho';exact⟨_,es',ep',hL,r'⟩) hok I.bare
theorem ay.call{g':Array GenState}{t':Nat}{d':Drawn}{ch:List Addr}(I:ay X pins σ H s)(u:Un (frs X.stack) ch H H' s.heap h')(hok:jB X.prog X.w H' h')(hg:AllBare g')
  (hch:∀b∈ch,(b∈X.ex\/X.s₀.heap.objs.size<=b)/\b≠X.env.locals/\(∀x c,X.env.cells.lookup x=some c->c≠b)/\∀p∈X.pn++pins,p.1≠b):
  ay X pins σ H' {s with heap:=h',gens:=g',drawn:=d',toks:=t'}:=by
 obtain⟨m,⟨o,es,ep,ho,r⟩,_⟩:=id I.loc;obtain⟨sl,hL⟩:=u.any ho I.free λz=>(hch _ z).2.1 rfl;exact I.step (ch:=ch) hch (λb o hL hb hc e n=>u.keep b o e n (λz=>(mem_cons.mp (I.stkSub b z)).elim hL hb) hc) (λb o _ _ hc e n=>u.any e n hc) (λb o hc e n=>u.free b o e n hc) (λb o hc e=>u.there b o e hc) u.tups u.frzs u.tbls (λm' hm=>by
  obtain⟨o',es',ep',ho',r'⟩:=hm;rw[ho] at ho';cases ho';exact⟨_,es',ep',hL,r'⟩) hok hg
theorem ay.turned{t':Nat}{it:Addr}(I:ay X pins σ H s)(k:∀b o,b≠it->s.heap.get? b=some o->h'.get? b=some o)(hn:H it=none)(hL:it≠X.env.locals)
  (h1:it∈X.ex\/X.s₀.heap.objs.size<=it) (h2:∀x c,X.env.cells.lookup x=some c->c≠it) (h3:∀p∈X.pn++pins,p.1≠it):ay X pins σ H {s with heap:=h',toks:=t'}:=by
 have nit:∀b u,H b=some u->b≠it:=λb u e z=>by rw[z,hn] at e;cases e
 refine I.step (g':=s.gens) (d':=s.drawn) (ch:=[it]) (λb hb=>?_) (λb o _ _ hc e _=>k b o (λz=>hc (by simp[z])) e) (λb o _ _ hc e _=>⟨o.slots,k b o (λz=>hc (by simp[z])) e⟩) (λ_ _ _ _ n=>n)
  (λb o hc e=>⟨o,k b o (λz=>hc (by simp[z])) e⟩) (λ_ _ e=>e) (λ_ _ _ e=>e) (λb ps e=>⟨#[],by rw[e];simp⟩) (λm hm=>?_) (λb u e=>?_) I.bare
 ·have e:b=it:=by simpa using hb
  subst e;exact⟨h1,hL,h2,h3⟩
 ·obtain⟨o,es,ep,ho,r⟩:=hm;exact⟨o,es,ep,k _ o (Ne.symm hL) ho,r⟩
 ·refine(I.hok b u e).stay (λc v hc q=>k c v ?_ q) (λ_ q=>q) (λ_ _ q=>q) λ_ _ _ q=>q;rcases hc with z|z
  ·rw[z];exact nit b u e
  ·exact nit c _ z
theorem ay.tok(I:ay X pins σ H s)(t:Nat):ay X pins σ H {s with toks:=t}:=I.un (h':=s.heap) (t':=t) Un.refl I.hok
theorem ay.kept{t':Nat}(I:ay X pins σ H s)(k:∀b u,s.heap.get? b=some u->h'.get? b=some u):ay X pins σ H {s with heap:=h',toks:=t'}:=I.un (Un.kept k) (I.hok.kept k)
theorem ay.laid{a:Addr}{o:HO}{t':Nat}(I:ay X pins σ H s)(k:∀b u,s.heap.get? b=some u->h'.get? b=some u)(hp:s.heap.objs.size<=a)(new:aY X.prog X.w (aS H a o) h' a o):
  ay X pins σ (aS H a o) {s with heap:=h',toks:=t'}:=I.un (Un.laid k hp (I.hok.fresh hp)) (I.hok.laid k hp new)
theorem ay.write{x e:Addr}{o:HO}{t':Nat}(I:ay X pins σ H s)(mu:Jr (H x))(he:e=x\/H e=some (.own x))(k:∀b u,b≠e->s.heap.get? b=some u->h'.get? b=some u)(heo:∃u,h'.get? e=some u)
  (new:aY X.prog X.w (aS H x o) h' x o):ay X pins σ (aS H x o) {s with heap:=h',toks:=t'}:=I.un (Un.write mu he k heo) (I.hok.write mu he k heo new)
theorem ay.pins_of{pins':List (Addr×Obj)}(I:ay X pins σ H s)(h:∀p∈pins',s.heap.get? p.1=some p.2/\H p.1=none/\p.1≠X.env.locals/\p.1∉X.fs/\∀v,p.2.data≠.cell v):ay X pins' σ H s:=
 ⟨I.ok,I.os,I.bare,I.base,I.loc,I.cell,I.free,I.freeC,λp hp=>(mem_append.mp hp).elim (λz=>I.pin p (mem_append_left _ z)) (h p),I.hok,I.len⟩
theorem nv{N:List Str}(hN:N.Nodup){i j:Nat}{x:Str}(a:N[i]?=some x)(b:N[j]?=some x):i=j:=by
 obtain⟨h1,e1⟩:=List.getElem?_eq_some_iff.mp a;obtain⟨h2,e2⟩:=List.getElem?_eq_some_iff.mp b;exact(List.getElem_inj hN).mp (e1.trans e2.symm)
theorem yD{M:Model}{A:Around}{E:Value->Shared->Prop}{i:Nat}{x:Str}{v:V}{u:Value}{Q:Unit->Shared->Prop}(I:ay X pins σ H s)(hN:X.N.Nodup)(hi:X.N[i]?=some x)(hx:CB X.env.scope x)(r:RelV v u)
  (h:∀s',ay X pins (σ.set i (some v)) H s'->(∃a,Heap.SameBut a s.heap s'.heap/\(a=X.env.locals\/X.env.cells.lookup x=some a))->Q () s') (hf:X.fn x=true\/X.env.scope.names.lookup x=some .local:=by first|exact .inl rfl|exact .inr rfl|assumption):wpAny M A (storeName X.env x u) Q E s:=by
 obtain⟨m,hn,hl⟩:=id I.loc;have hcls:(X.env.scope.kind == .class || (X.env.scope.kind == .module && X.env.locals != X.env.globals))=false:=by rw[I.ok.kind];rfl
 have hiσ:i<σ.length:=by rw[I.len];exact(List.getElem?_eq_some_iff.mp hi).1
 have cne:=I.cne;have tracked:∀{a:Addr}{h':Heap},(∃o,s.heap.get? a=some o/\H a=none)->Heap.SameBut a s.heap h'->jB X.prog X.w H h':=λ{a h'} ha hs b ob e=>by
  obtain⟨_,_,hfree⟩:=ha;refine(I.hok b ob e).stay (λc w' hc q=>(hs.2 c ?_).trans q) (λ_ q=>q) (λ_ _ q=>q) λ_ _ _ q=>q
  rintro rfl
  rcases hc with rfl|hc
  ·rw[hfree] at e;cases e
  ·rw[hfree] at hc;cases hc
 rcases hx with hk|hk
 ·refine wpAny_storeName_local hk hn (λh' hn' hs=>?_) hcls;obtain⟨oL,_,_,hoL,_⟩:=id hn;refine h _ ⟨I.ok,I.os,I.bare,⟨λb o e n hb hx=>?_,λb o e n hb hx=>?_,I.base.free,λb o e hx=>?_,I.base.tups,I.base.frzs,I.base.tbls⟩,⟨_,hn',λj y v' e1 e2 e3=>?_⟩,λy c e=>?_,I.free,I.freeC,λp hp=>?_,tracked ⟨oL,hoL,I.free⟩ hs,by simpa using I.len⟩ ⟨_,hs,.inl rfl⟩
  ·exact(hs.2 b (ne_of_lt (lt_of_lt_of_le (lt_size e) I.ok.above))).trans (I.base.keep b o e n hb hx)
  ·obtain⟨sl,e1⟩:=I.base.slot b o e n hb hx;exact⟨sl,(hs.2 b (ne_of_lt (lt_of_lt_of_le (lt_size e) I.ok.above))).trans e1⟩
  ·obtain⟨o',e1⟩:=I.base.there b o e hx;exact⟨o',(hs.2 b (ne_of_lt (lt_of_lt_of_le (lt_size e) I.ok.above))).trans e1⟩
  ·by_cases hj:j=i
   ·subst hj;rw[hi] at e1;cases e1;rw[getElem?_set_self hiσ] at e2;cases e2;exact⟨u,r,.inl ⟨hk,by simp⟩⟩
   ·rw[getElem?_set_ne (Ne.symm hj)] at e2;obtain⟨u',r',q⟩:=hl j y v' e1 e2 e3;refine⟨u',r',?_⟩;rcases q with⟨k,e⟩|⟨k,c,e,z⟩
    ·refine .inl ⟨k,?_⟩;have:y≠x:=λe=>hj (nv hN e1 (e▸hi));simp[this,e]
    ·exact .inr ⟨k,c,e,z.sameBut hs (cne y c e)⟩
  ·obtain⟨w',z⟩:=I.cell y c e;exact⟨w',z.sameBut hs (cne y c e)⟩
  ·obtain⟨e,n,ne,nf,d⟩:=I.pin p hp;exact⟨(hs.2 p.1 ne).trans e,n,ne,nf,d⟩
 ·have hfn:X.fn x=true:=by
   rcases hf with z|z
   ·exact z
   ·rw[z] at hk;cases hk
  obtain⟨c,hc⟩:=I.ok.has x (.inl hk);obtain⟨w',z⟩:=I.cell x c hc;refine wpAny_storeName_cell I.ok.kind hk hc z (λh' hc' hs=>?_);obtain⟨oc,hoc,hocd⟩:=id z;refine h {s with heap:=h'} ⟨I.ok,I.os,I.bare,⟨λb o e n hb hx=>?_,λb o e n hb hx=>?_,I.base.free,λb o e hx=>?_,I.base.tups,I.base.frzs,I.base.tbls⟩,⟨m,hn.sameBut hs (Ne.symm (cne x c hc)),λj y v' e1 e2 e3=>?_⟩,λy c' e=>?_,I.free,I.freeC,λp hp=>?_,tracked ⟨oc,hoc,I.freeC x c hc⟩ hs,by simpa using I.len⟩ ⟨c,hs,.inr hc⟩
  ·exact(hs.2 b (ne_of_lt (lt_of_lt_of_le (lt_size e) (I.ok.cab x c hfn hc)))).trans (I.base.keep b o e n hb hx)
  ·obtain⟨sl,e1⟩:=I.base.slot b o e n hb hx;exact⟨sl,(hs.2 b (ne_of_lt (lt_of_lt_of_le (lt_size e) (I.ok.cab x c hfn hc)))).trans e1⟩
  ·obtain⟨o',e1⟩:=I.base.there b o e hx;exact⟨o',(hs.2 b (ne_of_lt (lt_of_lt_of_le (lt_size e) (I.ok.cab x c hfn hc)))).trans e1⟩
  ·by_cases hj:j=i
   ·subst hj;rw[hi] at e1;cases e1;rw[getElem?_set_self hiσ] at e2;cases e2;exact⟨u,r,.inr ⟨.inl hk,c,hc,hc'⟩⟩
   ·rw[getElem?_set_ne (Ne.symm hj)] at e2;obtain⟨u',r',q⟩:=hl j y v' e1 e2 e3;refine⟨u',r',?_⟩;rcases q with q|⟨k,c',e,z'⟩
    ·exact .inl q
    ·refine .inr ⟨k,c',e,z'.sameBut hs ?_⟩
     rintro rfl
     exact hj (nv hN e1 (I.ok.inj _ _ _ e hc▸hi))
  ·by_cases hcc:c'=c
   ·subst hcc;exact⟨_,hc'⟩
   ·obtain⟨w2,z2⟩:=I.cell y c' e;exact⟨w2,z2.sameBut hs hcc⟩
  ·obtain⟨e,n,ne,nf,d⟩:=I.pin p hp;refine⟨(hs.2 p.1 ?_).trans e,n,ne,nf,d⟩;intro q;rw[q,hoc] at e;have q':oc=p.2:=Option.some.inj e;exact d w' (by rw[←q'];exact hocd)
theorem iF{M:Model}{A:Around}{E:Value->Shared->Prop}{i:Nat}{x:Str}{v:V}{u:Value}{Q:Unit->Shared->Prop}(I:ay X pins σ H s)(hN:X.N.Nodup)(hi:X.N[i]?=some x)(hx:CB X.env.scope x)(r:RelV v u)
  (h:∀s',ay X pins (σ.set i (some v)) H s'->Q () s') (hf:X.fn x=true\/X.env.scope.names.lookup x=some .local:=by first|exact .inl rfl|exact .inr rfl|assumption):wpAny M A (storeName X.env x u) Q E s:=
 yD I hN hi hx r (λs' I' _=>h s' I') hf
theorem ay.call'{s':Shared}{ch:List Addr}(I:ay X pins σ H s)(ho:s'.os=s.os)(u:Un (frs X.stack) ch H H' s.heap s'.heap)(hok:jB X.prog X.w H' s'.heap)(hg:AllBare s'.gens)
  (hch:∀b∈ch,(b∈X.ex\/X.s₀.heap.objs.size<=b)/\b≠X.env.locals/\(∀x c,X.env.cells.lookup x=some c->c≠b)/\∀p∈X.pn++pins,p.1≠b):ay X pins σ H' s':=by
 obtain⟨h',g',d',t',o'⟩:=s';have e:o'=s.os:=ho;subst e;exact I.call (g':=g') (t':=t') (d':=d') u hok hg hch
end
abbrev XK:=Value->Option Addr->Hp->Prop
abbrev St:=List (Option V)
abbrev VK:=V->Hp->Prop
abbrev TE:=St->Hp->VK->Prop
abbrev TT:=St->Hp->(Bool->Hp->Prop)->Prop
abbrev TA:=St->Hp->(List V->Hp->Prop)->Prop
structure mq where
 nx:St->Hp->Prop
 rt:VK
 bk:St->Hp->Prop:=λ_ _=>False
 ct:St->Hp->Prop:=λ_ _=>False
abbrev TS:=mq->St->Hp->Prop
def EP(X:Cx)(pins:List (Addr×Obj))(σ:St)(Q:VK)(u:Value)(s':Shared):Prop:=∃v H',ay X pins σ H' s'/\RelV v u/\Q v H'
def TP(X:Cx)(pins:List (Addr×Obj))(σ:St)(Q:Bool->Hp->Prop)(b:Bool)(s':Shared):Prop:=∃H',ay X pins σ H' s'/\Q b H'
def AP(X:Cx)(pins:List (Addr×Obj))(σ:St)(Q:List V->Hp->Prop)(us:List Value)(s':Shared):Prop:=∃vs H',ay X pins σ H' s'/\Vals vs us/\Q vs H'
def SP(X:Cx)(pins:List (Addr×Obj))(D:mq)(f:Flow)(s':Shared):Prop:=
 match f with
 |.next=>∃σ' H',ay X pins σ' H' s'/\D.nx σ' H'
 |.brk=>∃σ' H',ay X pins σ' H' s'/\D.bk σ' H'
 |.cont=>∃σ' H',ay X pins σ' H' s'/\D.ct σ' H'
 |.ret u=>∃v σ' H',ay X pins σ' H' s'/\RelV v u/\D.rt v H'
def PE(X:Cx)(e:Expr)(t:TE):Prop:=
 ∀(pins:List (Addr×Obj))(s:Shared)(σ:St)(H:Hp)(Q:VK),ay X pins σ H s->t σ H Q->wpAny (model X.prog X.w) X.A (eval e X.env) (EP X pins σ Q) X.xe s
def PT(X:Cx)(e:Expr)(t:TT):Prop:=
 ∀(pins:List (Addr×Obj))(s:Shared)(σ:St)(H:Hp)(Q:Bool->Hp->Prop),ay X pins σ H s->t σ H Q->wpAny (model X.prog X.w) X.A (isTrue e X.env (eval e X.env)) (TP X pins σ Q) X.xe s
def PW(X:Cx)(e:Expr)(t:TT):Prop:=
 ∀(whole:Sem Value)(pins:List (Addr×Obj))(s:Shared)(σ:St)(H:Hp)(Q:Bool->Hp->Prop),ay X pins σ H s->t σ H Q->wpAny (model X.prog X.w) X.A (isTrue e X.env whole) (TP X pins σ Q) X.xe s
theorem PW.pt{X:Cx}{e:Expr}{t:TT}(h:PW X e t):PT X e t:=h _
def PA(X:Cx)(es:List Expr)(t:TA):Prop:=
 ∀(pos:Pos)(pins:List (Addr×Obj))(s:Shared)(σ:St)(H:Hp)(Q:List V->Hp->Prop),ay X pins σ H s->t σ H Q->wpAny (model X.prog X.w) X.A (spliced (backTo pos (starEach es X.env))) (AP X pins σ Q) X.xe s
def PS(X:Cx)(st:Stmt)(t:TS):Prop:=
 ∀(pins:List (Addr×Obj))(s:Shared)(σ:St)(H:Hp)(D:mq),ay X pins σ H s->t D σ H->wpAny (model X.prog X.w) X.A (exec st X.env) (SP X pins D) X.xe s
def ip(X:Cx)(st:List Stmt)(t:TS):Prop:=
 ∀(pins:List (Addr×Obj))(s:Shared)(σ:St)(H:Hp)(D:mq),ay X pins σ H s->t D σ H->wpAny (model X.prog X.w) X.A (execs st X.env) (SP X pins D) X.xe s
theorem bW{α:Type}{t:Sem α}{Q Q':α->Shared->Prop}{M:Model}{A:Around}{E:Value->Shared->Prop}{s:Shared}(h:wpAny M A t Q E s)(hQ:∀a s,Q a s->Q' a s):wpAny M A t Q' E s:=wpAny_mono h hQ λ_ _ x=>x
section
variable{X:Cx}
def jD(i:Nat):TE:=λσ H Q=>∃v,σ[i]?=some (some v)/\Q v H
def tC(v:V):TE:=λ_ H Q=>Q v H
theorem iL{i:Nat}{x:Str}{pos:Pos}(hN:X.N[i]?=some x)(hv:qy X.env.scope x)(hd:(x == ("__debug__":Str))=false:=by decide)(hcd:(x == ("__classdict__":Str))=false:=by decide):PE X (.Name x pos) (jD i):=by
 intro pins s σ H Q I h;obtain⟨v,e,h⟩:=h;obtain⟨m,hn,hl⟩:=I.loc;obtain⟨u,r,l⟩:=hl i x v hN e hv;have fin:EP X pins σ Q u s:=⟨v,H,I,r,h⟩;rcases l with⟨hk,hm⟩|⟨hk,c,hc,hcell⟩
 ·exact wpAny_Name (wpAny_loadName_local I.ok.kind hk hn hm fin) hd
 ·rcases hk with hk|hk
  ·exact wpAny_Name (wpAny_loadName_cell I.ok.kind hk hc hcell fin) hd
  ·exact wpAny_Name (wpAny_loadName_free I.ok.kind hk hc hcell fin hcd) hd
theorem AK{i j pos}:PE X (.Constant (.int i) j pos) (tC (.int i)):=λ_ _ _ H _ I h=>wpAny_Constant_int ⟨.int i,H,I.tok _,⟨_,rfl⟩,h⟩
theorem Iq{b j pos}:PE X (.Constant (.bool b) j pos) (tC (.bl b)):=λ_ _ _ H _ I h=>Constant_bool ⟨.bl b,H,I,rfl,h⟩
theorem qZ{j pos}:PE X (.Constant .none j pos) (tC .non):=λ_ _ _ H _ I h=>Constant_none ⟨.non,H,I,rfl,h⟩
theorem AI{x j pos}:PE X (.Constant (.str x) j pos) (tC (.str x)):=λ_ _ _ H _ I h=>Calls.Constant_str ⟨.str x,H,I.tok _,⟨_,rfl⟩,h⟩
def Gl(X:Cx)(x:Str):Prop:=X.env.kindOf x=some .globalImplicit
theorem i7{E:Value->Shared->Prop}{pins:List (Addr×Obj)}{s:Shared}{σ:St}{H:Hp}{x:Str}{u:Value}{pos:Pos}{Q:Value->Shared->Prop}(I:ay X pins σ H s)(hg:Gl X x)(hm:X.mg x=some u)(h:Q u s)
  (hd:(x == ("__debug__":Str))=false:=by decide):wpAny (model X.prog X.w) X.A (eval (.Name x pos) X.env) Q E s:=
 Calls.Name_function_global I.ok.kind hg (Calls.loadGlobal_global (by rw[I.ok.glob];exact I.mod.glob.keeps I.bk) hm h) hd
theorem iX{E:Value->Shared->Prop}{pins:List (Addr×Obj)}{s:Shared}{σ:St}{H:Hp}{x:Str}{u:Value}{pos:Pos}{Q:Value->Shared->Prop}(I:ay X pins σ H s)(hg:Gl X x)(hm:X.mg x=none)(hv:bootBuiltins x=some u)(h:Q u s)
  (hn:x ≠ "__name__" := by decide) (hd:(x == ("__debug__":Str))=false:=by decide):wpAny (model X.prog X.w) X.A (eval (.Name x pos) X.env) Q E s:=by
 obtain⟨mb,h1,h2⟩:=I.mod.blt;exact Calls.Name_function_global I.ok.kind hg (Calls.loadGlobal_builtin (by rw[I.ok.glob];exact I.mod.glob.keeps I.bk) hm (by rw[I.ok.blt];exact h1.keeps I.bk) ((h2 x hn).trans hv) h) hd
theorem xF{x:Str}{v:V}{u:Value}{pos:Pos}(hg:Gl X x)(hm:X.mg x=some u)(r:RelV v u)(hd:(x == ("__debug__":Str))=false:=by decide):PE X (.Name x pos) (tC v):=
 λ_ _ _ H _ I h=>i7 I hg hm ⟨v,H,I,r,h⟩ hd
theorem xG{x:Str}{v:V}{u:Value}{pos:Pos}(hg:Gl X x)(hm:X.mg x=none)(hv:bootBuiltins x=some u)(r:RelV v u)(hn:x ≠ "__name__" := by decide)(hd:(x == ("__debug__":Str))=false:=by decide):PE X (.Name x pos) (tC v):=
 λ_ _ _ H _ I h=>iX I hg hm hv ⟨v,H,I,r,h⟩ hn hd
variable{a b:Expr}{ta tb:TE}{pos:Pos}
def PC(X:Cx)(op:CmpOp)(a b:Expr)(t:TE):Prop:=
 ∀(pins:List (Addr×Obj))(s:Shared)(σ:St)(H:Hp)(Q:VK),ay X pins σ H s->t σ H Q->
  wpAny (model X.prog X.w) X.A (eval a X.env) (λv s₁=>wpAny (model X.prog X.w) X.A (eval b X.env) (λu s₂=>wpAny (model X.prog X.w) X.A (compareOp op v u) (EP X pins σ Q) X.xe s₂) X.xe s₁) X.xe s
theorem tZ(b:Expr){op:CmpOp}(h:op≠.In)(h2:op≠.NotIn):behindInMarks op b=false:=by
 have e1:(op == CmpOp.In)=false:=by cases op <;> first|rfl|exact absurd rfl h
 have e2:(op == CmpOp.NotIn)=false:=by cases op <;> first|rfl|exact absurd rfl h2
 cases b <;> simp[behindInMarks,e1,e2]
def JQ(ta:TE):TE:=λσ H Q=>ta σ H λx H1=>Q (.bl (decide (x=.non))) H1
def HS(ta:TE):TE:=λσ H Q=>ta σ H λx H1=>Q (.bl (!decide (x=.non))) H1
theorem RelV.none_iff{x:V}{v:Value}(r:RelV x v):(v == Value.none)=decide (x=.non):=by
 cases x with
 |non=>cases r;rfl
 |bl _=>cases r;rfl
 |ref _=>cases r;rfl
 |ty _=>cases r;rfl
 |_=>obtain⟨t,rfl⟩:=r;rfl
theorem w5{j pos'}(ha:PE X a ta):PC X .Is a (.Constant .none j pos') (JQ ta):=by
 intro pins s σ H Q I h;refine bW (ha pins s σ H _ I h) λv s1 ⟨x,H1,I1,r1,q1⟩=>?_;exact Constant_none (is_none_gen ⟨.bl _,H1,I1,by rw[r1.none_iff];rfl,q1⟩)
theorem DH{j pos'}(ha:PE X a ta):PC X .IsNot a (.Constant .none j pos') (HS ta):=by
 intro pins s σ H Q I h;refine bW (ha pins s σ H _ I h) λv s1 ⟨x,H1,I1,r1,q1⟩=>?_;exact Constant_none (isnot_none_gen ⟨.bl _,H1,I1,by rw[r1.none_iff];rfl,q1⟩)
def tB(t:TE):TT:=λσ H Q=>t σ H λx H1=>∃c,x=.bl c/\Q c H1
theorem Ga{op:CmpOp}{t:TE}(h:PC X op a b t)(h1:behindInMarks op b=false:=by first|exact tZ _ (by decide) (by decide)|rfl):PE X (.Compare a [op] [b] pos) t:=λpins s σ H Q I hw=>wpAny_Compare1 (h pins s σ H Q I hw) h1
theorem qW{op:CmpOp}{t:TE}(h:PC X op a b t)(h1:behindInMarks op b=false:=by first|exact tZ _ (by decide) (by decide)|rfl):PT X (.Compare a [op] [b] pos) (tB t):=by
 intro pins s σ H Q I hw;refine wpAny_isTrue_Compare1 (bW (h pins s σ H _ I hw) λv s1 h1=>bW h1 λu s2 h2=>bW h2 λc s3 ⟨x,H1,I1,r1,q1⟩=>?_) h1;obtain⟨d,rfl,q⟩:=q1;cases r1;exact wpAny_truthy_bool ⟨H1,I1,q⟩
theorem vS{e:Expr}{t:TE}(h:PE X e t)(he:∀whole,isTrue e X.env whole=(do let v ←whole;standAt e.pos;holding [v] (truthy v)):=by intro _;rfl):PT X e (tB t):=by
 intro pins s σ H Q I hw;refine isTrue_plain (bW (h pins s σ H _ I hw) λv s1 ⟨x,H1,I1,r1,q1⟩=>?_) (he _);obtain⟨d,rfl,q⟩:=q1;cases r1;exact wpAny_truthy_bool ⟨H1,I1,q⟩
variable{tA tB':TT}{rest:List Expr}
def JW(t u:TT):TT:=λσ H Q=>t σ H λc H1=>if c=true then u σ H1 Q else Q false H1
def KO(t u:TT):TT:=λσ H Q=>t σ H λc H1=>if c=true then Q true H1 else u σ H1 Q
def JN(t:TT):TT:=λσ H Q=>t σ H λc H1=>Q (!c) H1
theorem Dk(ha:PT X a tA):PW X (.BoolOp .And [a] pos) tA:=by
 intro wh pins s σ H Q I h;refine isTrue_and (bW (ha pins s σ H Q I h) λc s1 e=>?_);cases c with
 |true=>exact isTrue_and_nil e
 |false=>exact e
theorem Aw(ha:PT X a tA):PW X (.BoolOp .Or [a] pos) tA:=by
 intro wh pins s σ H Q I h;refine isTrue_or (bW (ha pins s σ H Q I h) λc s1 e=>?_);cases c with
 |false=>exact isTrue_or_nil e
 |true=>exact e
theorem FX(ha:PT X a tA)(hb:PW X (.BoolOp .And (b::rest) pos) tB'):PW X (.BoolOp .And (a::b::rest) pos) (JW tA tB'):=by
 intro wh pins s σ H Q I h;refine isTrue_and (bW (ha pins s σ H _ I h) λc s1 ⟨H1,I1,q1⟩=>?_);cases c with
 |true=>exact hb wh pins s1 σ H1 Q I1 q1
 |false=>exact⟨H1,I1,q1⟩
theorem Fh(ha:PT X a tA)(hb:PW X (.BoolOp .Or (b::rest) pos) tB'):PW X (.BoolOp .Or (a::b::rest) pos) (KO tA tB'):=by
 intro wh pins s σ H Q I h;refine isTrue_or (bW (ha pins s σ H _ I h) λc s1 ⟨H1,I1,q1⟩=>?_);cases c with
 |true=>exact⟨H1,I1,q1⟩
 |false=>exact hb wh pins s1 σ H1 Q I1 q1
theorem Ay(ha:PT X a tA):PT X (.UnaryOp .Not a pos) (JN tA):=by
 intro pins s σ H Q I h;exact isTrue_not (ha pins s σ H (λc H1=>Q (!c) H1) I h)
def I9(ta tb:TE):TE:=λσ H Q=>ta σ H λx H1=>∃c,x=.bl c/\if c=true then tb σ H1 Q else Q (.bl false) H1
theorem G6{op}{t:TE}(h:PE X a t):PE X (.BoolOp op [a] pos) t:=λpins s σ H Q I hw=>BoolOp_one (h pins s σ H Q I hw)
theorem Gb(ha:PE X a ta)(hb:PE X (.BoolOp .And (b::rest) pos) tb):PE X (.BoolOp .And (a::b::rest) pos) (I9 ta tb):=by
 intro pins s σ H Q I h;refine BoolOp_and (bW (ha pins s σ H _ I h) λv s1 ⟨x,H1,I1,r1,q1⟩=>?_);obtain⟨c,rfl,q1⟩:=q1;cases r1;refine wpAny_truthy_bool ?_;cases c with
 |true=>exact hb pins s1 σ H1 Q I1 q1
 |false=>exact⟨.bl false,H1,I1,rfl,q1⟩
def KQ(t:TT)(ta tb:TE):TE:=λσ H Q=>t σ H λc H1=>if c=true then ta σ H1 Q else tb σ H1 Q
theorem AL{c:Expr}(hc:PT X c tA)(ha:PE X a ta)(hb:PE X b tb):PE X (.IfExp c a b pos) (KQ tA ta tb):=by
 intro pins s σ H Q I h;refine wpAny_IfExp (bW (hc pins s σ H _ I h) λd s1 ⟨H1,I1,q1⟩=>?_);cases d with
 |true=>exact ha pins s1 σ H1 Q I1 q1
 |false=>exact hb pins s1 σ H1 Q I1 q1
end
def jE(K:Frag)(H:Hp)(a:Addr)(xs:List V):Prop:=
 Rd H a (.lst xs)\/
  ∃(o:Obj)(its:Array Value)(n:Nat),K.lookup a=some o/\o.cls=.type "list" /\ o.dict=none/\o.data=.seq its n/\its.size<=sizeLine/\Vals xs its.toList
def jP(K:Frag)(H:Hp)(a:Addr)(xs:List V):Prop:=
 Rd H a (.tup xs)\/
  ∃(o:Obj)(its:Array Value)(n:Nat),K.lookup a=some o/\o.cls=.type "tuple" /\ o.data=.seq its n/\its.size<=sizeLine/\Vals xs its.toList
def Kp:Value->Option V
 |.none=>some .non
 |.bool b=>some (.bl b)
 |.int i _=>some (.int i)
 |.str x _=>some (.str x)
 |.bytes b _=>some (.byt b)
 |.float b _=>some (.flt b)
 |.ref a=>some (.ref a)
 |.type n=>some (.ty n)
 |_=>none
theorem RelV.abs{x:V}{u:Value}(r:RelV x u):Kp u=some x:=by
 cases x with
 |non=>cases r;rfl
 |bl _=>cases r;rfl
 |ref _=>cases r;rfl
 |ty _=>cases r;rfl
 |_=>obtain⟨t,rfl⟩:=r;rfl
theorem RelV.inj{x y:V}{u:Value}(r:RelV x u)(q:RelV y u):x=y:=Option.some.inj (r.abs.symm.trans q.abs)
theorem Vals.inj:∀{xs ys:List V}{us:List Value},Vals xs us->Vals ys us->xs=ys
 |_,_,_,.nil,.nil=>rfl
 |_,_,_,.cons r t,.cons r' t'=>by rw[r.inj r',Vals.inj t t']
section
variable{X:Cx}{pins:List (Addr×Obj)}{σ:St}{H:Hp}{s:Shared}{a:Addr}{xs ys:List V}
theorem jE.of{K:Frag}(h:H a=some (.lst xs)):jE K H a xs:=.inl (.inl h)
theorem jP.of{K:Frag}(h:H a=some (.tup xs)):jP K H a xs:=.inl (.inl h)
theorem ay.list(I:ay X pins σ H s)(h:jE X.K H a xs):∃its:List Value,Vals xs its/\PlainL s.heap a its.toArray/\xs.length<=sizeLine:=by
 rcases h with h|⟨o,its,n,hk,hc,hd,hs,hz,r⟩
 ·obtain⟨z,its,n,r,e⟩:=h.ok I.hok;exact⟨its,r,⟨_,n,e,rfl,rfl,rfl⟩,z⟩
 ·refine⟨its.toList,r,⟨o,n,I.kIn a o hk,hc,hd,by simpa using hs⟩,?_⟩
  have e:=r.length;simp only[length_toList] at e;omega
theorem ay.tuple(I:ay X pins σ H s)(h:jP X.K H a xs):∃its:List Value,Vals xs its/\IsTup s.heap a its.toArray/\xs.length<=sizeLine:=by
 rcases h with h|⟨o,its,n,hk,hc,hs,hz,r⟩
 ·obtain⟨z,its,r,p⟩:=h.ok I.hok;exact⟨its,r,p,z⟩
 ·refine⟨its.toList,r,⟨o,I.kIn a o hk,hc,n,by simpa using hs⟩,?_⟩
  have e:=r.length;simp only[length_toList] at e;omega
theorem ay.list_inj(I:ay X pins σ H s)(h:jE X.K H a xs)(h':jE X.K H a ys):xs=ys:=by
 obtain⟨its,r,⟨o,n,e,_,_,d⟩,_⟩:=I.list h;obtain⟨its',r',⟨o',n',e',_,_,d'⟩,_⟩:=I.list h';rw[e] at e';cases e';rw[d] at d';injection d' with d1 _;have:its=its':=by simpa using congrArg Array.toList d1
 subst this;exact r.inj r'
theorem ay.tuple_inj(I:ay X pins σ H s)(h:jP X.K H a xs)(h':jP X.K H a ys):xs=ys:=by
 obtain⟨its,r,⟨o,e,_,n,d⟩,_⟩:=I.tuple h;obtain⟨its',r',⟨o',e',_,n',d'⟩,_⟩:=I.tuple h';rw[e] at e';cases e';rw[d] at d';injection d' with d1 _;have:its=its':=by simpa using congrArg Array.toList d1
 subst this;exact r.inj r'
end
abbrev Cx.wish(X:Cx)(E:Value->Shared->Prop):Cx:={X with xe:=E}
abbrev Cx.nox(X:Cx):Cx:=X.wish λ_ _=>False
theorem Cx.Ok.wish{X:Cx}(ok:X.Ok)(E:Value->Shared->Prop):(X.wish E).Ok:=
 ⟨ok.mod,ok.kind,ok.glob,ok.blt,ok.above,ok.inj,ok.has,ok.cab,ok.hd,ok.frames,ok.stk,ok.exf,ok.bs,ok.bsz,ok.noex,ok.exfs,ok.funs,ok.frf⟩
theorem Cx.Ok.unwish{X:Cx}{E:Value->Shared->Prop}(ok:(X.wish E).Ok):X.Ok:=
 ⟨ok.mod,ok.kind,ok.glob,ok.blt,ok.above,ok.inj,ok.has,ok.cab,ok.hd,ok.frames,ok.stk,ok.exf,ok.bs,ok.bsz,ok.noex,ok.exfs,ok.funs,ok.frf⟩
section
variable{X:Cx}{pins:List (Addr×Obj)}{σ:St}{H:Hp}{s:Shared}{E:Value->Shared->Prop}
theorem ay.wish(I:ay X pins σ H s)(E:Value->Shared->Prop):ay (X.wish E) pins σ H s:=⟨I.ok.wish E,I.os,I.bare,I.base,I.loc,I.cell,I.free,I.freeC,I.pin,I.hok,I.len⟩
theorem ay.unwish(I:ay (X.wish E) pins σ H s):ay X pins σ H s:=⟨I.ok.unwish,I.os,I.bare,I.base,I.loc,I.cell,I.free,I.freeC,I.pin,I.hok,I.len⟩
theorem SP.unwish{D:mq}{f:Flow}{s':Shared}(h:SP (X.wish E) pins D f s'):SP X pins D f s':=by
 cases f with
 |ret u=>obtain⟨v,σ',H',I,r,q⟩:=h;exact⟨v,σ',H',I.unwish,r,q⟩
 |_=>obtain⟨σ',H',I,q⟩:=h;exact⟨σ',H',I.unwish,q⟩
theorem PE.nox{e:Expr}{t:TE}(h:PE X.nox e t):PE X e t:=λpins s σ H Q I hw=>
 wpAny_mono (h pins s σ H Q (I.wish _) hw) (λ_ _ ⟨v,H',I',r,q⟩=>⟨v,H',I'.unwish,r,q⟩) λ_ _ z=>False.elim z
theorem PT.nox{e:Expr}{t:TT}(h:PT X.nox e t):PT X e t:=λpins s σ H Q I hw=>
 wpAny_mono (h pins s σ H Q (I.wish _) hw) (λ_ _ ⟨H',I',q⟩=>⟨H',I'.unwish,q⟩) λ_ _ z=>False.elim z
theorem ip.nox{st:List Stmt}{t:TS}(h:ip X.nox st t):ip X st t:=λpins s σ H D I hw=>
 wpAny_mono (h pins s σ H D (I.wish _) hw) (λ_ _ q=>q.unwish) λ_ _ z=>False.elim z
end
section
variable{X:Cx}{st:Stmt}{rest:List Stmt}{t u:TS}{e:Expr}{te:TE}{pos:Pos}
def HU:TS:=λD σ H=>D.nx σ H
def JL(t u:TS):TS:=λD σ H=>t {D with nx:=u D} σ H
theorem mE:ip X [] HU:=λ_ _ σ H _ I h=>wpAny_execs_nil ⟨σ,H,I,h⟩
theorem iJ(h1:PS X st t)(h2:ip X rest u):ip X (st::rest) (JL t u):=by
 intro pins s σ H D I h;refine wpAny_execs_cons (bW (h1 pins s σ H {D with nx:=u D} I h) λf s1 q=>?_);cases f with
 |next=>
  obtain⟨σ',H',I',q⟩:=q;exact h2 pins s1 σ' H' D I' q
 |ret v=>exact q
 |_=>exact q
theorem kr(h1:PS X st t):ip X [st] t:=by
 intro pins s σ H D I h;refine wpAny_execs_cons (bW (h1 pins s σ H D I h) λf s1 q=>?_);cases f with
 |next=>exact wpAny_execs_nil q
 |ret v=>exact q
 |brk=>exact q
 |cont=>exact q
theorem ay.quiet{pins:List (Addr×Obj)}{σ:St}{H:Hp}{s:Shared}(I:ay X pins σ H s):interactive X.env=false:=by simp[interactive,I.ok.kind]
def HX(te:TE):TS:=λD σ H=>te σ H λ_ H1=>D.nx σ H1
theorem mF(he:PE X e te)(hs:swapsWith e none pos.line X.env=pure false:=by rfl):PS X (.Expr e pos) (HX te):=by
 intro pins s σ H D I h;exact wpAny_Expr_any (bW (he pins s σ H _ I h) λv s1 ⟨x,H1,I1,r1,q1⟩=>⟨σ,H1,I1,q1⟩) I.quiet hs
def JM(te:TE):TS:=λD σ H=>te σ H D.rt
theorem kZ(he:PE X e te):PS X (.Return (some e) pos) (JM te):=by
 intro pins s σ H D I h;exact wpAny_Return_some (bW (he pins s σ H _ I h) λv s1 ⟨x,H1,I1,r1,q1⟩=>⟨x,σ,H1,I1,r1,q1⟩)
def JR(c:TT)(t u:TS):TS:=λD σ H=>c σ H λb H1=>if b=true then t D σ H1 else u D σ H1
theorem AB{c:Expr}{a b:List Stmt}{tc:TT}(hc:PT X c tc)(ha:ip X a t)(hb:ip X b u):PS X (.If c a b pos) (JR tc t u):=by
 intro pins s σ H D I h;refine wpAny_If (bW (hc pins s σ H _ I h) λd s1 ⟨H1,I1,q1⟩=>?_);cases d with
 |true=>exact ha pins s1 σ H1 D I1 q1
 |false=>exact hb pins s1 σ H1 D I1 q1
end
abbrev TG:=V->St->Hp->(St->Hp->Prop)->Prop
abbrev Hq:=List V->St->Hp->(St->Hp->Prop)->Prop
def PG(X:Cx)(target:Expr)(t:TG):Prop:=
 ∀(pins:List (Addr×Obj))(s:Shared)(σ:St)(H:Hp)(v:V)(u:Value)(Q:St->Hp->Prop),ay X pins σ H s->RelV v u->t v σ H Q->
  wpAny (model X.prog X.w) X.A (assign target X.env u) (λ_ s'=>∃σ' H',ay X pins σ' H' s'/\Q σ' H') X.xe s
def JH(X:Cx)(ts:List Expr)(t:Hq):Prop:=
 ∀(pins:List (Addr×Obj))(s:Shared)(σ:St)(H:Hp)(vs:List V)(us:List Value)(Q:St->Hp->Prop),ay X pins σ H s->Vals vs us->t vs σ H Q->
  wpAny (model X.prog X.w) X.A (assignInOrder ((assignEach ts X.env).map (·.2)) us) (λ_ s'=>∃σ' H',ay X pins σ' H' s'/\Q σ' H') X.xe s
section
variable{X:Cx}{pos:Pos}
def BR(i:Nat):TG:=λv σ H Q=>Q (σ.set i (some v)) H
theorem qX{i:Nat}{x:Str}(hN:X.N.Nodup)(hi:X.N[i]?=some x)(hx:CB X.env.scope x)(hf:X.fn x=true\/X.env.scope.names.lookup x=some .local:=by first|exact .inl rfl|exact .inr rfl|assumption):PG X (.Name x pos) (BR i):=by
 intro pins s σ H v u Q I r h;exact wpAny_assign_Name (iF I hN hi hx r (λs' I'=>⟨_,H,I',h⟩) hf)
def Kk:Hq:=λvs σ H Q=>vs=[]/\Q σ H
def Jb(t:TG)(u:Hq):Hq:=λvs σ H Q=>∃v r,vs=v::r/\t v σ H λσ' H'=>u r σ' H' Q
theorem Dv:JH X [] Kk:=by
 intro pins s σ H vs us Q I r h;obtain⟨e,h⟩:=h;subst e;cases r;exact assignInOrder_nil ⟨σ,H,I,h⟩
theorem tE{e:Expr}{es:List Expr}{t:TG}{u:Hq}(h1:PG X e t)(h2:JH X es u)
  (hs:(assignEach (e::es) X.env).map (·.2)=assign e X.env::(assignEach es X.env).map (·.2):=by rfl):JH X (e::es) (Jb t u):=by
 intro pins s σ H vs us Q I r h;obtain⟨v,vr,e1,h⟩:=h;subst e1;cases r with
 |cons r rr=>
  rw[hs];refine assignInOrder_cons (bW (h1 pins s σ H _ _ _ I r h) λ_ s1 ⟨σ1,H1,I1,q1⟩=>?_);exact h2 pins s1 σ1 H1 _ _ Q I1 rr q1
def Kj(K:Frag)(n:Nat)(t:Hq):TG:=λv σ H Q=>∃a xs,v=.ref a/\jP K H a xs/\xs.length=n/\t xs σ H Q
theorem G5{es:List Expr}{k:Nat}{t:Hq}{n:Nat}(hc:X.calm=true)(h:JH X es t)
  (hn:(assignEach es X.env).length=n:=by rfl) (hst:(assignEach es X.env).findIdx? (·.1)=none:=by rfl):PG X (.Tuple es k pos) (Kj X.K n t):=by
 intro pins s σ H v u Q I r hw;obtain⟨a,xs,e1,hq,hl,hw⟩:=hw;subst e1;cases r;obtain⟨its,rv,ht,hz⟩:=I.tuple hq;refine assign_Tuple_tuple (I.ok.hd hc) ht (by simp[hn,←hl,rv.length]) hst λh' hx=>?_
 have I1:ay X pins σ H {s with heap:=h'}:=I.kept (t':=s.toks) λb o e=>hx b o (ne_of_lt (lt_size e)) e;exact h pins _ σ H xs _ Q I1 (by simpa using rv) hw
def HZ(te:TE)(g:TG):TS:=λD σ H=>te σ H λx H1=>g x σ H1 D.nx
theorem vX{i:Nat}{x:Str}{e:Expr}{te:TE}{pos':Pos}(hN:X.N.Nodup)(hi:X.N[i]?=some x)(hx:CB X.env.scope x)(he:PE X e te)(hs:swapsWith e (some (.Name x pos')) pos.line X.env=pure false:=by rfl)(hf:X.fn x=true\/X.env.scope.names.lookup x=some .local:=by first|exact .inl rfl|exact .inr rfl|assumption):
  PS X (.Assign [.Name x pos'] e pos) (HZ te (BR i)):=by
 intro pins s σ H D I h;refine wpAny_Assign_Name (bW (he pins s σ H _ I h) λv s1 ⟨y,H1,I1,r1,q1⟩=>?_) hs;exact iF I1 hN hi hx r1 (λs2 I2=>⟨_,H1,I2,q1⟩) hf
end
section
variable{X:Cx}{pos:Pos}
def Af(c:TT)(tb:TS):TS:=λD σ H=>∃W:Nat->St->Hp->Prop,(∃m,W m σ H)/\∀m σ H,W m σ H->
 c σ H λb H1=>if b=true then ∃N:St->Hp->Prop,(∀σ' H',N σ' H'->∃m',m'<m/\W m' σ' H')/\tb {D with nx:=N,ct:=N,bk:=D.nx} σ H1 else D.nx σ H1
theorem Az{c:Expr}{body:List Stmt}{tc:TT}{tb:TS}(hp:PassesOwn (model X.prog X.w) X.A X.env X.xe)(hc:PT X c tc)(hb:ip X body tb):PS X (.While c body [] pos) (Af tc tb):=by
 intro pins s σ H D I h;obtain⟨W,⟨m0,w0⟩,turn⟩:=h;refine wpAny_While (codeAny_whileLoop (λn s'=>∃σ' H',ay X pins σ' H' s'/\W n σ' H') ?_ m0 ⟨σ,H,I,w0⟩)
 rintro n s1 ⟨σ1,H1,I1,w1⟩
 refine wpAny_passesOwn hp (bW (hc pins s1 σ1 H1 _ I1 (turn n σ1 H1 w1)) λb s2 ⟨H2,I2,q2⟩=>?_);cases b with
 |true=>
  obtain⟨N,hN,q2⟩:=q2;rw[if_pos rfl];refine wpAny_passesOwn hp (bW (hb pins s2 σ1 H2 _ I2 q2) λf s3 q3=>?_);cases f with
  |next=>
   obtain⟨σ3,H3,I3,n3⟩:=q3;obtain⟨m',hm,w3⟩:=hN σ3 H3 n3;exact⟨m',hm,σ3,H3,I3,w3⟩
  |cont=>
   obtain⟨σ3,H3,I3,n3⟩:=q3;obtain⟨m',hm,w3⟩:=hN σ3 H3 n3;exact⟨m',hm,σ3,H3,I3,w3⟩
  |brk=>exact q3
  |ret v=>exact q3
 |false=>
  rw[if_neg Bool.false_ne_true];exact wpAny_execs_nil ⟨σ1,H2,I2,q2⟩
end
structure It where
 go:Nat->Hp->Prop
 yld:Nat->Hp->V->Hp->Prop
 stop:Nat->Hp->Prop
def FpOk(X:Cx)(pins:List (Addr×Obj))(H:Hp)(b:Addr):Prop:=
 H b=none/\b≠X.env.locals/\b∉X.fs/\(b∈X.ex\/X.s₀.heap.objs.size<=b)/\(∀x c,X.env.cells.lookup x=some c->c≠b)/\∀p∈X.pn++pins,p.1≠b
theorem ay.fpOk{X:Cx}{pins:List (Addr×Obj)}{σ:St}{H H':Hp}{s:Shared}{b:Addr}(I:ay X pins σ H s)(hb:s.heap.objs.size<=b)(hn:H' b=none):FpOk X pins H' b:=by
 refine⟨hn,ne_of_gt (lt_of_lt_of_le I.lt hb),I.nofs hb,.inr (le_trans I.sz hb),λx c e z=>?_,λp hp z=>?_⟩
 ·obtain⟨v,q⟩:=I.cell x c e;exact absurd (lt_of_lt_of_le q.lt (by rw[z];exact hb)) (lt_irrefl _)
 ·exact absurd (lt_of_lt_of_le (lt_size (I.pin p hp).1) (by rw[z];exact hb)) (lt_irrefl _)
structure zZ(P:Program)(w:World)(K:Frag)(tg:Expr)(J:It)(fp:List Addr)(it:Addr)(tn:Nat->Heap->Prop):Prop where
 mem:it∈fp
 obj:∀i h,tn i h->∀b∈fp,∃o,h.get? b=some o/\∀v,o.data≠.cell v
 keep:∀i h h',tn i h->(∀b∈fp,∀o,h.get? b=some o->h'.get? b=some o)->tn i h'
 item:∀(X:Cx),X.prog=P->X.w=w->X.K=K->X.calm=true->∀(i:Nat)(pins:List (Addr×Obj))(s:Shared)(σ:St)(H:Hp)(E:Value->Shared->Prop),ay X pins σ H s->(∀b∈fp,FpOk X pins H b)->tn i s.heap->J.go i H->
  wpAny (model P w) X.A (pyNext (.ref it)) (λr s1=>∃u,r=some u/\
   wpAny (model P w) X.A (letOwnedTupleGo tg (.ref it) u) (λ_ s2=>∃x H',ay X pins σ H' s2/\RelV x u/\J.yld i H x H'/\tn (i+1) s2.heap/\∀b∈fp,H' b=none) E s1) E s
 done:∀(X:Cx),X.prog=P->X.w=w->X.K=K->X.calm=true->∀(i:Nat)(pins:List (Addr×Obj))(s:Shared)(σ:St)(H:Hp)(E:Value->Shared->Prop),ay X pins σ H s->(∀b∈fp,FpOk X pins H b)->tn i s.heap->J.stop i H->
  wpAny (model P w) X.A (pyNext (.ref it)) (λr s1=>r=none/\ay X pins σ H s1) E s
 self:∀(A:Around)(i:Nat)(s:Shared)(Q:Value->Shared->Prop)(E:Value->Shared->Prop),tn i s.heap->Q (.ref it) s->wpAny (model P w) A (pyIter (.ref it)) Q E s
abbrev TI:=St->Hp->(It->Hp->Prop)->Prop
def KG(X:Cx)(pins:List (Addr×Obj))(σ:St)(tg:Expr)(R:It->Hp->Prop)(itv:Value)(s2:Shared):Prop:=
 ∃(it:Addr)(fp:List Addr)(tn:Nat->Heap->Prop)(J:It)(H':Hp),itv=.ref it/\ay X pins σ H' s2/\zZ X.prog X.w X.K tg J fp it tn/\tn 0 s2.heap/\(∀b∈fp,FpOk X pins H' b)/\R J H'
def PI(X:Cx)(tg iter:Expr)(wi:TI):Prop:=
 ∀(pins:List (Addr×Obj))(s:Shared)(σ:St)(H:Hp)(R:It->Hp->Prop),ay X pins σ H s->wi σ H R->
  wpAny (model X.prog X.w) X.A (eval iter X.env) (λv s1=>wpAny (model X.prog X.w) X.A (pyIter v) (KG X pins σ tg R) X.xe s1) X.xe s
theorem BO{M:Model}{A:Around}{E:Value->Shared->Prop}{s:Shared}{tg:Expr}{it:Addr}{u:Value}{o:Obj}{n:String}{vs:Array Value}{Q:Unit->Shared->Prop}(ho:s.heap.get? it=some o)(hc:o.cls=.type n)(hd:o.data=.fields vs)
  (hn:["enumerate","zip","dict_itemiterator","dict_reverseitemiterator","odict_iterator","itertools.zip_longest","itertools.pairwise"].contains n=false) (hQ:Q () s):wpAny M A (letOwnedTupleGo tg (.ref it) u) Q E s:=by
 unfold letOwnedTupleGo;cases tg <;> first
  |exact wpAny_pure hQ
  | (cases u <;> first
      |exact wpAny_pure hQ
      | (refine wpAny_bind (wpAny_load ho ?_)
         rw[hc,hd];show wpAny M A (if(["enumerate","zip","dict_itemiterator","dict_reverseitemiterator","odict_iterator","itertools.zip_longest","itertools.pairwise"].contains n && vs[0]? == some (rawInt _))=true then _ else _) Q E s;rw[if_neg (by intro h;rw[hn,Bool.false_and] at h;cases h)]
         exact wpAny_pure hQ))
def Kv(K:Frag)(a:Addr):It:=
 ⟨λi H=>∃xs x,jE K H a xs/\xs[i]?=some x,λi H x H'=>H'=H/\∀xs,jE K H a xs->xs[i]?=some x,λi H=>∃xs,jE K H a xs/\xs.length<=i⟩
def Ku(K:Frag)(a:Addr):It:=
 ⟨λi H=>∃xs x,jP K H a xs/\xs[i]?=some x,λi H x H'=>H'=H/\∀xs,jP K H a xs->xs[i]?=some x,λi H=>∃xs,jP K H a xs/\xs.length<=i⟩
def Js(lo:Int)(n:Nat):It:=⟨λi _=>i<n,λi H x H'=>H'=H/\x=.int (lo+i),λi _=>n<=i⟩
theorem yr{P:Program}{w:World}{K:Frag}{tg:Expr}(a it:Addr):zZ P w K tg (Kv K a) [it] it (λi h=>h.IsListIter it a i) where
 mem:=by simp
 obj:=λi h st b hb=>by
  have e:b=it:=by simpa using hb
  subst e;obtain⟨o,e,c,d⟩:=st;exact⟨o,e,λv z=>by rw[d] at z;cases z⟩
 keep:=λi h h' st k=>st.at λo e=>k it (by simp) o e
 item:=by
  intro X hP hw hK hc i pins s σ H E I hf st hg;subst hP hw hK;obtain⟨xs,x,hq,hx⟩:=hg;obtain⟨its,rv,p,hz⟩:=I.list hq;obtain⟨u,hu,ru⟩:=rv.get hx;obtain⟨f0,f1,f2,f3,f4,f5⟩:=hf it (by simp)
  refine wpAny_pyNext_list_item st p.isList (x:=u) (by simpa using hu) λh' st' sb=>?_
  have I1:ay X pins σ H {s with heap:=h'}:=I.turned (t':=s.toks) (λb o hb e=>(sb.2 b hb).trans e) f0 f1 f3 f4 f5;obtain⟨o,e,c,d⟩:=id st';exact⟨u,rfl,BO (s:={s with heap:=h'}) e c d (by decide) ⟨x,H,I1,ru,⟨rfl,λys hy=>by rw[I.list_inj hy hq];exact hx⟩,st',λb hb=>(hf b hb).1⟩⟩
 done:=by
  intro X hP hw hK hc i pins s σ H E I hf st hg;subst hP hw hK;obtain⟨xs,hq,hx⟩:=hg;obtain⟨its,rv,p,hz⟩:=I.list hq;obtain⟨f0,f1,f2,f3,f4,f5⟩:=hf it (by simp)
  have hl:=rv.length;exact wpAny_pyNext_list_end (I.ok.hd hc) st p.isList (by simp;omega) λh' eb=>⟨rfl,I.turned (t':=s.toks) (λb o hb e=>eb b o hb e) f0 f1 f3 f4 f5⟩
 self:=λ_ _ _ _ _ st h=>wpAny_pyIter_listiter st h
theorem vq{P:Program}{w:World}{K:Frag}{tg:Expr}(a it:Addr):zZ P w K tg (Ku K a) [it] it (λi h=>h.IsTupleIter it a i) where
 mem:=by simp
 obj:=λi h st b hb=>by
  have e:b=it:=by simpa using hb
  subst e;obtain⟨o,e,c,d⟩:=st;exact⟨o,e,λv z=>by rw[d] at z;cases z⟩
 keep:=λi h h' st k=>st.at λo e=>k it (by simp) o e
 item:=by
  intro X hP hw hK hc i pins s σ H E I hf st hg;subst hP hw hK;obtain⟨xs,x,hq,hx⟩:=hg;obtain⟨its,rv,p,hz⟩:=I.tuple hq;obtain⟨u,hu,ru⟩:=rv.get hx;obtain⟨f0,f1,f2,f3,f4,f5⟩:=hf it (by simp)
  refine wpAny_pyNext_tuple_item st (show s.heap.IsTuple a its.toArray from p) (x:=u) (by simpa using hu) λh' st' sb=>?_
  have I1:ay X pins σ H {s with heap:=h'}:=I.turned (t':=s.toks) (λb o hb e=>(sb.2 b hb).trans e) f0 f1 f3 f4 f5;obtain⟨o,e,c,d⟩:=id st';exact⟨u,rfl,BO (s:={s with heap:=h'}) e c d (by decide) ⟨x,H,I1,ru,⟨rfl,λys hy=>by rw[I.tuple_inj hy hq];exact hx⟩,st',λb hb=>(hf b hb).1⟩⟩
 done:=by
  intro X hP hw hK hc i pins s σ H E I hf st hg;subst hP hw hK;obtain⟨xs,hq,hx⟩:=hg;obtain⟨its,rv,p,hz⟩:=I.tuple hq;obtain⟨f0,f1,f2,f3,f4,f5⟩:=hf it (by simp)
  have hl:=rv.length;exact wpAny_pyNext_tuple_end (I.ok.hd hc) st (show s.heap.IsTuple a its.toArray from p) (by simp;omega) λh' eb=>⟨rfl,I.turned (t':=s.toks) (λb o hb e=>eb b o hb e) f0 f1 f3 f4 f5⟩
 self:=λ_ _ _ _ _ st h=>wpAny_pyIter_tupleiter st h
theorem vt{P:Program}{w:World}{K:Frag}{tg:Expr}(it:Addr)(lo:Int)(n:Nat):zZ P w K tg (Js lo n) [it] it (λi h=>IsRangeIter h it (lo+(i:Nat) * 1) ((n:Int) - (i:Nat)) 1) where
 mem:=by simp
 obj:=λi h st b hb=>by
  have e:b=it:=by simpa using hb
  subst e;exact⟨_,st,λv z=>by
   have z':Data.fields _=Data.cell v:=z;cases z'⟩
 keep:=λi h h' st k=>k it (by simp) _ st
 item:=by
  intro X hP hw hK hc i pins s σ H E I hf st hg;subst hP hw hK;obtain⟨f0,f1,f2,f3,f4,f5⟩:=hf it (by simp)
  have W:=Walks.range (prog:=X.prog) (w:=X.w) (I.ok.hd hc) it lo 1 n;refine W.item i s _ _ hg st λv h' tk hv st' kk=>?_;obtain⟨t,rfl⟩:=hv;have I1:ay X pins σ H {s with heap:=h',toks:=tk}:=I.turned (λb o hb e=>kk b o (by simpa using hb) e) f0 f1 f3 f4 f5
  refine⟨_,rfl,BO (s:={s with heap:=h',toks:=tk}) (n := "range_iterator") st' rfl rfl (by decide) ⟨.int (lo+i),H,I1,⟨t,?_⟩,⟨rfl,rfl⟩,st',λb hb=>(hf b hb).1⟩⟩
  rw[Int.mul_one]
 done:=by
  intro X hP hw hK hc i pins s σ H E I hf st hg;subst hP hw hK;obtain⟨f0,f1,f2,f3,f4,f5⟩:=hf it (by simp)
  exact wpAny_pyNext_range_end (I.ok.hd hc) st (by have:n<=i:=hg;omega) λh' eb=>⟨rfl,I.turned (t':=s.toks) (λb o hb e=>eb b o hb e) f0 f1 f3 f4 f5⟩
 self:=λ_ _ _ _ _ st h=>wpAny_pyIter_rangeiter st h
section
variable{X:Cx}{tg:Expr}
theorem t7{pins:List (Addr×Obj)}{σ:St}{H:Hp}{s:Shared}{R:It->Hp->Prop}{E:Value->Shared->Prop}{lo hi:Int}{t u v:Tok}{tk:Nat}(I:ay X pins σ H s)(h1:-(2 ^ 62)<=lo)(h2:lo<2 ^ 62)(h3:-(2 ^ 62)<=hi)(h4:hi<2 ^ 62)
  (q:R (Js lo (hi - lo).toNat) H):wpAny (model X.prog X.w) X.A (pyIter (.ref s.heap.objs.size)) (KG X pins σ tg R) E {s with heap:=s.heap.push {cls:=.type "range",data:=.fields #[.int lo t,.int hi u,.int 1 v]},toks:=tk}:=by
 refine wpAny_pyIter_range (IsRange.new ..) (small_one h1 h2 h3 h4) ?_;have I1:ay X pins σ H {s with heap:=s.heap.push {cls:=.type "range",data:=.fields #[.int lo t,.int hi u,.int 1 v]},toks:=tk}:=I.kept λb o e=>get?_push_of_some _ e;refine⟨(s.heap.push {cls:=.type "range",data:=.fields #[.int lo t,.int hi u,.int 1 v]}).objs.size,[(s.heap.push {cls:=.type "range",data:=.fields #[.int lo t,.int hi u,.int 1 v]}).objs.size],_,_,H,rfl,
  I1.kept (t':=tk) λb o e=>get?_push_of_some _ e,vt _ lo (hi - lo).toNat,?_,λb hb=>?_,q⟩
 ·have e1:lo+((0:Nat):Int) * 1=lo:=by simp
  have e2:(((hi - lo).toNat:Nat):Int) - ((0:Nat):Int)=Builtin.Range.rangeSize lo hi 1:=by rw[rangeSize_one];split <;> omega
  show IsRangeIter _ _ (lo+((0:Nat):Int) * 1) ((((hi - lo).toNat:Nat):Int) - ((0:Nat):Int)) 1;rw[e1,e2];exact get?_push_size _ rfl
 ·have e:b=(s.heap.push {cls:=.type "range",data:=.fields #[.int lo t,.int hi u,.int 1 v]}).objs.size:=by simpa using hb
  subst e;exact I1.fpOk (le_refl _) (I1.hok.fresh (le_refl _))
def J1(ta:TA):TI:=λσ H R=>ta σ H λvs H1=>∃j:Int,vs=[.int j]/\-(2 ^ 62)<=j/\j<2 ^ 62/\R (Js 0 j.toNat) H1
def J0(ta:TA):TI:=λσ H R=>ta σ H λvs H1=>∃i j:Int,vs=[.int i,.int j]/\(-(2 ^ 62)<=i/\i<2 ^ 62/\-(2 ^ 62)<=j/\j<2 ^ 62)/\R (Js i (j - i).toNat) H1
theorem yW{a:Expr}{ta:TA}{p pos:Pos}(hg:Gl X "range")(hm:X.mg "range" = none)(ha:PA X [a] ta)(hs:starEach [a] X.env=[(false,eval a X.env)]:=by rfl):PI X tg (.Call (.Name "range" p) [a] [] pos) (J1 ta):=by
 intro pins s σ H R I h;refine Call_ (iX I hg hm boot_range (PyProof.Rows.callWith_type1 (bW (ha pos pins s σ H _ I h) λus s1 ⟨vs,H1,I1,r1,q1⟩=>?_) hs rfl));obtain⟨j,e,q1,q2,q⟩:=q1;subst e;cases r1 with
 |cons r rr=>
  cases rr;obtain⟨t,rfl⟩:=r;exact call_range_1 (t7 I1 (by omega) (by omega) q1 q2 (by simpa using q))
theorem yV{a b:Expr}{ta:TA}{p pos:Pos}(hg:Gl X "range")(hm:X.mg "range" = none)(ha:PA X [a,b] ta)(hs:starEach [a,b] X.env=[(false,eval a X.env),(false,eval b X.env)]:=by rfl)(hs2:starEach [b] X.env=[(false,eval b X.env)]:=by rfl):
  PI X tg (.Call (.Name "range" p) [a,b] [] pos) (J0 ta):=by
 intro pins s σ H R I h;refine Call_ (iX I hg hm boot_range (PyProof.Rows.callWith_type1 (bW (ha pos pins s σ H _ I h) λus s1 ⟨vs,H1,I1,r1,q1⟩=>?_) (by rw[hs,hs2]) (by rw[hs2];rfl)))
 obtain⟨i,j,e,⟨q1,q2,q3,q4⟩,q⟩:=q1;subst e;cases r1 with
 |cons r rr=>
  cases rr with
  |cons r' rr=>
   cases rr;obtain⟨t,rfl⟩:=r;obtain⟨t',rfl⟩:=r';exact call_range_2 (t7 I1 q1 q2 q3 q4 q)
def JS(wi:TI)(g:TG)(tb:TS):TS:=λD σ H=>wi σ H λJ H1=>∃W:Nat->Nat->St->Hp->Prop,(∃m,W 0 m σ H1)/\∀i m σ H,W i m σ H->
 (J.stop i H/\D.nx σ H)\/(J.go i H/\∃N:St->Hp->Prop,(∀σ' H',N σ' H'->∃m',m'<m/\W (i+1) m' σ' H')/\∀x H',J.yld i H x H'->g x σ H' λσ2 H2=>tb {D with nx:=N,ct:=N,bk:=D.nx} σ2 H2)
def ng(fp:List Addr)(h:Heap):List (Addr×Obj):=fp.filterMap λb=>(h.get? b).map λo=>(b,o)
theorem i5{fp:List Addr}{h:Heap}{b:Addr}{o:Obj}(hb:b∈fp)(e:h.get? b=some o):(b,o)∈ng fp h:=List.mem_filterMap.mpr ⟨b,hb,by rw[e];rfl⟩
theorem zm{fp:List Addr}{h:Heap}{p:Addr×Obj}(hp:p∈ng fp h):p.1∈fp/\h.get? p.1=some p.2:=by
 obtain⟨b,hb,e⟩:=List.mem_filterMap.mp hp;cases q:h.get? b with
 |none=>rw[q] at e;cases e
 |some o=>
  rw[q] at e;have e':(b,o)=p:=Option.some.inj e;subst e';exact⟨hb,q⟩
theorem ay.pinned{pins:List (Addr×Obj)}{σ:St}{H:Hp}{s:Shared}{fp:List Addr}(I:ay X pins σ H s)(hf:∀b∈fp,FpOk X pins H b)(ho:∀b∈fp,∃o,s.heap.get? b=some o/\∀v,o.data≠.cell v):ay X (pins++ng fp s.heap) σ H s:=
 I.pins_of λp hp=>(mem_append.mp hp).elim (λz=>I.pin p (mem_append_right _ z)) λz=>by
  obtain⟨hb,e⟩:=zm z;obtain⟨f0,f1,f2,_⟩:=hf p.1 hb;obtain⟨o,e',d⟩:=ho p.1 hb;rw[e] at e';cases e';exact⟨e,f0,f1,f2,d⟩
theorem ay.unpinned{pins pl:List (Addr×Obj)}{σ:St}{H:Hp}{s:Shared}(I:ay X (pins++pl) σ H s):ay X pins σ H s:=I.pins_of λp hp=>I.pin p (mem_append_right _ (mem_append_left _ hp))
theorem FZ{iter:Expr}{body:List Stmt}{wi:TI}{g:TG}{tb:TS}{pos:Pos}(hp:PassesOwn (model X.prog X.w) X.A X.env X.xe)(hc:X.calm=true)(hi:PI X tg iter wi)(hg:PG X tg g)(hb:ip X body tb)
  (hs:∀x,foldedSetIterable iter X.env x=pure x:=by intro _;rfl):PS X (.For tg iter body [] pos) (JS wi g tb):=by
 intro pins s σ H D I h;refine wpAny_For (bW (hi pins s σ H _ I h) λv s1 h1=>bW h1 λitv s2 h2=>?_) hs;obtain⟨it,fp,tn,J,H2,e,I2,T,st2,f2,W,⟨m0,w0⟩,turn⟩:=h2;subst e;have stat:∀{H':Hp},(∀b∈fp,H' b=none)->∀b∈fp,FpOk X pins H' b:=λhn b hb=>⟨hn b hb,(f2 b hb).2⟩;refine codeAny_forLoop_any (λn s'=>∃i σ' H',ay X pins σ' H' s'/\tn i s'.heap/\(∀b∈fp,H' b=none)/\W i n σ' H') ?_ m0 ⟨0,σ,H2,I2,st2,λb hb=>(f2 b hb).1,w0⟩
 rintro n s3 ⟨i,σ3,H3,I3,st3,fr3,w3⟩
 rcases turn i n σ3 H3 w3 with⟨stop,qn⟩|⟨go,N,hN,step⟩
 ·refine wpAny_passesOwn hp (bW (T.done X rfl rfl rfl hc i pins s3 σ3 H3 X.xe I3 (stat fr3) st3 stop) λr s4 ⟨hr,I4⟩=>?_);subst hr;exact wpAny_execs_nil ⟨σ3,H3,I4,qn⟩
 ·refine wpAny_passesOwn hp (bW (T.item X rfl rfl rfl hc i pins s3 σ3 H3 X.xe I3 (stat fr3) st3 go) λr s4 ⟨u,hr,h4⟩=>?_);subst hr;refine wpAny_passesOwn hp (bW h4 λ_ s5 ⟨x,H5,I5,r5,y5,st5,fr5⟩=>?_);have I5':=I5.pinned (stat fr5) (T.obj _ _ st5);refine wpAny_passesOwn hp (bW (hg _ s5 σ3 H5 x u _ I5' r5 (step x H5 y5)) λ_ s6 ⟨σ6,H6,I6,q6⟩=>?_);refine wpAny_passesOwn hp (bW (hb _ s6 σ6 H6 _ I6 q6) λf s7 q7=>?_);have again:∀{σ7:St}{H7:Hp},ay X (pins++ng fp s5.heap) σ7 H7 s7->N σ7 H7->∃m,m<n/\∃i σ' H',ay X pins σ' H' s7/\tn i s7.heap/\(∀b∈fp,H' b=none)/\W i m σ' H':=λ{σ7 H7} I7 n7=>by
   obtain⟨m',hm,w7⟩:=hN σ7 H7 n7;refine⟨m',hm,i+1,σ7,H7,I7.unpinned,T.keep _ _ _ st5 λb hb o e=>(I7.pin (b,o) (mem_append_right _ (mem_append_right _ (i5 hb e)))).1,λb hb=>?_,w7⟩;obtain⟨o,e,d⟩:=T.obj _ _ st5 b hb;exact(I7.pin (b,o) (mem_append_right _ (mem_append_right _ (i5 hb e)))).2.1
  cases f with
  |brk=>obtain⟨σ7,H7,I7,q7⟩:=q7;exact⟨σ7,H7,I7.unpinned,q7⟩
  |ret v=>obtain⟨x7,σ7,H7,I7,r7,q7⟩:=q7;exact⟨x7,σ7,H7,I7.unpinned,r7,q7⟩
  |_=>obtain⟨σ7,H7,I7,n7⟩:=q7;exact again I7 n7
end
abbrev R2:=V->V->Hp->VK->Prop
def ft(X:Cx)(f:Value->Value->Sem Value)(r:R2):Prop:=
 ∀(pins:List (Addr×Obj))(s:Shared)(σ:St)(H:Hp)(x y:V)(v u:Value)(Q:VK),ay X pins σ H s->RelV x v->RelV y u->r x y H Q->
  wpAny (model X.prog X.w) X.A (f v u) (EP X pins σ Q) X.xe s
def JD(X:Cx)(f:Value->Sem Value)(r:V->Hp->VK->Prop):Prop:=
 ∀(pins:List (Addr×Obj))(s:Shared)(σ:St)(H:Hp)(x:V)(v:Value)(Q:VK),ay X pins σ H s->RelV x v->r x H Q->
  wpAny (model X.prog X.w) X.A (f v) (EP X pins σ Q) X.xe s
def cZ(X:Cx)(f:Value)(r:List V->Hp->VK->Prop):Prop:=
 ∀(pins:List (Addr×Obj))(s:Shared)(σ:St)(H:Hp)(xs:List V)(us:List Value)(Q:VK),ay X pins σ H s->Vals xs us->r xs H Q->
  wpAny (model X.prog X.w) X.A (call f us) (EP X pins σ Q) X.xe s
def HR(r:R2)(ta tb:TE):TE:=λσ H Q=>ta σ H λx H1=>tb σ H1 λy H2=>r x y H2 Q
def KM(r:V->Hp->VK->Prop)(ta:TE):TE:=λσ H Q=>ta σ H λx H1=>r x H1 Q
def rI(C:Int->Int->Prop)(g:Int->Int->V):R2:=λx y H Q=>∃i j,x=.int i/\y=.int j/\C i j/\Q (g i j) H
def Fg(g:Int->Int->V):R2:=λx y H Q=>∃i j,x=.int i/\y=.int j/\Q (g i j) H
def rU(g:Int->V):V->Hp->VK->Prop:=λx H Q=>∃i,x=.int i/\Q (g i) H
section
variable{X:Cx}{a b c:Expr}{ta tb tc:TE}{pos:Pos}
theorem Hi(ha:PE X a ta)(hb:PE X b tb){pins:List (Addr×Obj)}{s:Shared}{σ:St}{H:Hp}{R:V->V->Hp->Prop}(I:ay X pins σ H s)
  (h:ta σ H λx H1=>tb σ H1 λy H2=>R x y H2) {Q:Value->Shared->Prop} {f:Value->Value->Sem Value}
  (hf:∀v u s2 x y H2,ay X pins σ H2 s2->RelV x v->RelV y u->R x y H2->wpAny (model X.prog X.w) X.A (f v u) Q X.xe s2):
  wpAny (model X.prog X.w) X.A (eval a X.env) (λv s₁=>wpAny (model X.prog X.w) X.A (eval b X.env) (λu s₂=>wpAny (model X.prog X.w) X.A (f v u) Q X.xe s₂) X.xe s₁) X.xe s:=by
 refine bW (ha pins s σ H _ I h) λv s1 ⟨x,H1,I1,r1,q1⟩=>?_;refine bW (hb pins s1 σ H1 _ I1 q1) λu s2 ⟨y,H2,I2,r2,q2⟩=>?_;exact hf v u s2 x y H2 I2 r1 r2 q2
theorem Fj{op:Operator}{r:R2}(ho:ft X (binaryOp op) r)(ha:PE X a ta)(hb:PE X b tb):PE X (.BinOp a op b pos) (HR r ta tb):=by
 intro pins s σ H Q I h;exact wpAny_BinOp (Hi ha hb I h λv u s2 x y H2 I2 rx ry q=>ho pins s2 σ H2 x y v u Q I2 rx ry q)
theorem Fi{op:UnaryOp}{r:V->Hp->VK->Prop}(ho:JD X (unaryOp op) r)(ha:PE X a ta):PE X (.UnaryOp op a pos) (KM r ta):=by
 intro pins s σ H Q I h;exact UnaryOp_ (bW (ha pins s σ H _ I h) λv s1 ⟨x,H1,I1,r1,q1⟩=>ho pins s1 σ H1 x v Q I1 r1 q1)
theorem ID{f:Value->Value->Sem Value}{C:Int->Int->Prop}{g:Int->Int->Int}
  (rule:∀(i j:Int)(t u:Tok)(s:Shared)(Q:Value->Shared->Prop)(E:Value->Shared->Prop),C i j->Q (.int (g i j) s.toks) {s with toks:=s.toks+1}->wpAny (model X.prog X.w) X.A (f (.int i t) (.int j u)) Q E s):
  ft X f (rI C λi j=>.int (g i j)):=by
 intro pins s σ H x y v u Q I rx ry h;obtain⟨i,j,rfl,rfl,hc,q⟩:=h;obtain⟨t,rfl⟩:=rx;obtain⟨t',rfl⟩:=ry;exact rule i j t t' s _ _ hc ⟨.int (g i j),H,I.tok _,⟨_,rfl⟩,q⟩
theorem DS{f:Value->Value->Sem Value}{g:Int->Int->Int}
  (rule:∀(i j:Int)(t u:Tok)(s:Shared)(Q:Value->Shared->Prop)(E:Value->Shared->Prop),Q (.int (g i j) s.toks) {s with toks:=s.toks+1}->wpAny (model X.prog X.w) X.A (f (.int i t) (.int j u)) Q E s):
  ft X f (Fg λi j=>.int (g i j)):=by
 intro pins s σ H x y v u Q I rx ry h;obtain⟨i,j,rfl,rfl,q⟩:=h;obtain⟨t,rfl⟩:=rx;obtain⟨t',rfl⟩:=ry;exact rule i j t t' s _ _ ⟨.int (g i j),H,I.tok _,⟨_,rfl⟩,q⟩
theorem IE{f:Value->Value->Sem Value}{g:Int->Int->Bool}
  (rule:∀(i j:Int)(t u:Tok)(s:Shared)(Q:Value->Shared->Prop)(E:Value->Shared->Prop),Q (.bool (g i j)) s->wpAny (model X.prog X.w) X.A (f (.int i t) (.int j u)) Q E s):
  ft X f (Fg λi j=>.bl (g i j)):=by
 intro pins s σ H x y v u Q I rx ry h;obtain⟨i,j,rfl,rfl,q⟩:=h;obtain⟨t,rfl⟩:=rx;obtain⟨t',rfl⟩:=ry;exact rule i j t t' s _ _ ⟨.bl (g i j),H,I,rfl,q⟩
def KB(i j:Int):Prop:=0<j/\j<1073741824
def KA(i j:Int):Prop:=0<=j/\j<=1000000/\i.natAbs<2 ^ 64
def HE(i j:Int):Prop:=(-(2 ^ 64)<i/\i<2 ^ 64)\/(-(2 ^ 64)<j/\j<2 ^ 64)
theorem HE.ok{i j:Int}(h:HE i j):IntMulOk i j:=by
 rcases h with⟨h1,h2⟩|⟨h1,h2⟩
 ·exact .of_left (intBits_le_64 h1 h2)
 ·exact .of_right (intBits_le_64 h1 h2)
theorem vp(k:Nat):(0:Int)<=2 ^ k:=by
 rw[two_pow_cast];exact Int.natCast_nonneg _
theorem Gr:ft X (binaryOp .Add) (Fg λi j=>.int (i+j)):=DS λ_ _ _ _ _ _ _ q=>add_int q
theorem Gi:ft X (binaryOp .Sub) (Fg λi j=>.int (i - j)):=DS λ_ _ _ _ _ _ _ q=>sub_int q
theorem Gn:ft X (binaryOp .Mult) (rI HE λi j=>.int (i * j)):=ID λ_ _ _ _ _ _ _ hc q=>mul_int q hc.ok
theorem DP:ft X (binaryOp .FloorDiv) (rI KB λi j=>.int (i / j)):=ID λi j _ _ _ _ _ hc q=>by
 have h1:(0:Int)<j:=hc.1;have h2:j<1073741824:=hc.2;exact floordiv_int (by omega) (by rw[Int.fdiv_eq_ediv_of_nonneg i (by omega)];exact q) (.inl (PyProof.noPylong_small (by omega)))
theorem Gp:ft X (binaryOp .Mod) (rI (λ_ j=>0<j) λi j=>.int (i % j)):=ID λi j _ _ _ _ _ hc q=>by
 have h1:(0:Int)<j:=hc;exact mod_int' (by omega) (by rw[Int.fmod_eq_emod_of_nonneg i (by omega)];exact q)
theorem Gm:ft X (binaryOp .Pow) (rI KA λi j=>.int (i ^ j.toNat)):=ID λ_ _ _ _ _ _ _ hc q=>pow_int_small hc.1 hc.2.1 hc.2.2 q
theorem Gj:ft X (binaryOp .RShift) (rI (λ_ j=>0<=j) λi j=>.int (i / 2 ^ j.toNat)):=ID λi j _ _ _ _ _ hc q=>
 rshift_int hc (by rw[Int.fdiv_eq_ediv_of_nonneg i (vp _)];exact q)
theorem Gq:ft X (binaryOp .BitAnd) (Fg λi j=>.int (Builtin.bitAnd i j)):=DS λ_ _ _ _ _ _ _ q=>and_int q
theorem Iy:ft X (binaryOp .BitOr) (Fg λi j=>.int (Builtin.bitOr i j)):=DS λ_ _ _ _ _ _ _ q=>or_int q
theorem KI{f:Value->Sem Value}{g:Int->Int}
  (rule:∀(i:Int)(t:Tok)(s:Shared)(Q:Value->Shared->Prop)(E:Value->Shared->Prop),Q (.int (g i) s.toks) {s with toks:=s.toks+1}->wpAny (model X.prog X.w) X.A (f (.int i t)) Q E s):
  JD X f (rU λi=>.int (g i)):=by
 intro pins s σ H x v Q I rx h;obtain⟨i,rfl,q⟩:=h;obtain⟨t,rfl⟩:=rx;exact rule i t s _ _ ⟨.int (g i),H,I.tok _,⟨_,rfl⟩,q⟩
theorem A9:JD X (unaryOp .USub) (rU λi=>.int (-i)):=KI λ_ _ _ _ _ q=>neg_int q
end
def FS:V->V->Bool
 |.non,.non=>true|.non,.int _=>true|.int _,.non=>true|.non,.bl _=>true|.bl _,.non=>true|.non,.str _=>true|.str _,.non=>true
 |.int _,.int _=>true|.bl _,.bl _=>true|.str _,.str _=>true|.byt _,.byt _=>true
 |.int _,.str _=>true|.str _,.int _=>true|.bl _,.str _=>true|.str _,.bl _=>true
 |_,_=>false
def KZ:R2:=λx y H Q=>FS x y=true/\Q (.bl (decide (x=y))) H
def KY:R2:=λx y H Q=>FS x y=true/\Q (.bl (!decide (x=y))) H
theorem xX{i j:Int}:decide (V.int i=V.int j)=(i == j):=by
 rw[Bool.eq_iff_iff];simp
theorem Cf{i j:Bool}:decide (V.bl i=V.bl j)=(i == j):=by
 rw[Bool.eq_iff_iff];simp
theorem xW{i j:Str}:decide (V.str i=V.str j)=(i == j):=by
 rw[Bool.eq_iff_iff];simp
theorem xY{i j:Array UInt8}:decide (V.byt i=V.byt j)=(i.toList == j.toList):=by
 rw[Bool.eq_iff_iff];cases i;cases j;simp
section
variable{X:Cx}{a b c:Expr}{ta tb tc:TE}{pos:Pos}
theorem aZ{pins:List (Addr×Obj)}{σ:St}{H:Hp}{s:Shared}{Q:VK}{k k':Bool}(I:ay X pins σ H s)(q:Q (.bl k) H)(e:k=k'):EP X pins σ Q (.bool k') s:=by
 subst e;exact⟨.bl k,H,I,rfl,q⟩
theorem IC:ft X (compareOp .Eq) KZ:=by
 intro pins s σ H x y v u Q I rx ry h;obtain⟨hs,q⟩:=h;cases x with
 |non=>
  cases rx;cases y with
  |non=>cases ry;exact PySem.EqNone.eq_none_none (aZ I q (by simp))
  |bl j=>cases ry;exact PySem.EqNone.eq_none_bool (aZ I q (by simp))
  |int j=>obtain⟨t',rfl⟩:=ry;exact PySem.EqNone.eq_none_int (aZ I q (by simp))
  |str j=>obtain⟨t',rfl⟩:=ry;exact PySem.EqNone.eq_none_str (aZ I q (by simp))
  |_=>exact absurd (show false=true from hs) Bool.false_ne_true
 |bl i=>
  cases rx;cases y with
  |non=>cases ry;exact PySem.EqNone.eq_bool_none (aZ I q (by simp))
  |bl j=>cases ry;exact eq_bool (aZ I q Cf)
  |str j=>obtain⟨t',rfl⟩:=ry;exact PySem.EqMixed.eq_bool_str (aZ I q (by simp))
  |_=>exact absurd (show false=true from hs) Bool.false_ne_true
 |int i=>
  obtain⟨t,rfl⟩:=rx;cases y with
  |non=>cases ry;exact PySem.EqNone.eq_int_none (aZ I q (by simp))
  |int j=>obtain⟨t',rfl⟩:=ry;exact eq_int (aZ I q xX)
  |str j=>obtain⟨t',rfl⟩:=ry;exact PySem.EqMixed.eq_int_str (aZ I q (by simp))
  |_=>exact absurd (show false=true from hs) Bool.false_ne_true
 |str i=>
  obtain⟨t,rfl⟩:=rx;cases y with
  |non=>cases ry;exact PySem.EqNone.eq_str_none (aZ I q (by simp))
  |bl j=>cases ry;exact PySem.EqMixed.eq_str_bool (aZ I q (by simp))
  |int j=>obtain⟨t',rfl⟩:=ry;exact PySem.EqMixed.eq_str_int (aZ I q (by simp))
  |str j=>obtain⟨t',rfl⟩:=ry;exact eq_str (aZ I q xW)
  |_=>exact absurd (show false=true from hs) Bool.false_ne_true
 |byt i=>
  obtain⟨t,rfl⟩:=rx;cases y with
  |byt j=>obtain⟨t',rfl⟩:=ry;exact PySem.W.eq_bytes (aZ I q xY)
  |_=>exact absurd (show false=true from hs) Bool.false_ne_true
 |_=>cases y <;> exact absurd (show false=true from hs) Bool.false_ne_true
theorem Iz:ft X (compareOp .NotEq) KY:=by
 intro pins s σ H x y v u Q I rx ry h;obtain⟨hs,q⟩:=h;cases x with
 |non=>
  cases rx;cases y with
  |non=>cases ry;exact PySem.EqNone.ne_none_none (aZ I q (by simp))
  |bl j=>cases ry;exact PySem.EqNone.ne_none_bool (aZ I q (by simp))
  |int j=>obtain⟨t',rfl⟩:=ry;exact PySem.EqNone.ne_none_int (aZ I q (by simp))
  |str j=>obtain⟨t',rfl⟩:=ry;exact PySem.EqNone.ne_none_str (aZ I q (by simp))
  |_=>exact absurd (show false=true from hs) Bool.false_ne_true
 |bl i=>
  cases rx;cases y with
  |non=>cases ry;exact PySem.EqNone.ne_bool_none (aZ I q (by simp))
  |bl j=>cases ry;exact ne_bool (aZ I q (congrArg not Cf))
  |str j=>obtain⟨t',rfl⟩:=ry;exact PySem.EqMixed.ne_bool_str (aZ I q (by simp))
  |_=>exact absurd (show false=true from hs) Bool.false_ne_true
 |int i=>
  obtain⟨t,rfl⟩:=rx;cases y with
  |non=>cases ry;exact PySem.EqNone.ne_int_none (aZ I q (by simp))
  |int j=>obtain⟨t',rfl⟩:=ry;exact ne_int (aZ I q (congrArg not xX))
  |str j=>obtain⟨t',rfl⟩:=ry;exact PySem.EqMixed.ne_int_str (aZ I q (by simp))
  |_=>exact absurd (show false=true from hs) Bool.false_ne_true
 |str i=>
  obtain⟨t,rfl⟩:=rx;cases y with
  |non=>cases ry;exact PySem.EqNone.ne_str_none (aZ I q (by simp))
  |bl j=>cases ry;exact PySem.EqMixed.ne_str_bool (aZ I q (by simp))
  |int j=>obtain⟨t',rfl⟩:=ry;exact PySem.EqMixed.ne_str_int (aZ I q (by simp))
  |str j=>obtain⟨t',rfl⟩:=ry;exact ne_str (aZ I q (congrArg not xW))
  |_=>exact absurd (show false=true from hs) Bool.false_ne_true
 |byt i=>
  obtain⟨t,rfl⟩:=rx;cases y with
  |byt j=>obtain⟨t',rfl⟩:=ry;exact PySem.W.ne_bytes (aZ I q (congrArg not xY))
  |_=>exact absurd (show false=true from hs) Bool.false_ne_true
 |_=>cases y <;> exact absurd (show false=true from hs) Bool.false_ne_true
theorem IA:ft X (compareOp .Lt) (Fg λi j=>.bl (decide (i<j))):=IE λ_ _ _ _ _ _ _ q=>lt_int q
theorem IB:ft X (compareOp .Gt) (Fg λi j=>.bl (decide (j<i))):=IE λ_ _ _ _ _ _ _ q=>gt_int q
theorem ft.or{f:Value->Value->Sem Value}{r r':R2}(h:ft X f r)(h':ft X f r'):ft X f (λx y H Q=>r x y H Q\/r' x y H Q):=by
 intro pins s σ H x y v u Q I rx ry q;rcases q with q|q
 ·exact h pins s σ H x y v u Q I rx ry q
 ·exact h' pins s σ H x y v u Q I rx ry q
theorem B8(b:Expr){op:CmpOp}(h:op≠.In:=by decide)(h2:op≠.NotIn:=by decide):behindInMarks op b=false:=by
 have e1:(op == CmpOp.In)=false:=by cases op <;> first|rfl|exact absurd rfl h
 have e2:(op == CmpOp.NotIn)=false:=by cases op <;> first|rfl|exact absurd rfl h2
 cases b <;> simp[behindInMarks,e1,e2]
theorem DA{op:CmpOp}{r:R2}(ho:ft X (compareOp op) r)(ha:PE X a ta)(hb:PE X b tb)(hm:behindInMarks op b=false):PE X (.Compare a [op] [b] pos) (HR r ta tb):=by
 intro pins s σ H Q I h;exact wpAny_Compare1 (Hi ha hb I h λv u s2 x y H2 I2 rx ry q=>ho pins s2 σ H2 x y v u Q I2 rx ry q) hm
def HQ(t:TE):TT:=λσ H Q=>t σ H λx H'=>∃k,x=.bl k/\Q k H'
theorem Dl{op:CmpOp}{r:R2}(ho:ft X (compareOp op) r)(ha:PE X a ta)(hb:PE X b tb)(hm:behindInMarks op b=false):PT X (.Compare a [op] [b] pos) (HQ (HR r ta tb)):=by
 intro pins s σ H Q I h;refine wpAny_isTrue_Compare1 (bW (ha pins s σ H _ I h) λv s1 ⟨x,H1,I1,r1,q1⟩=>bW (hb pins s1 σ H1 _ I1 q1) λu s2 ⟨y,H2,I2,r2,q2⟩=>
  bW (ho pins s2 σ H2 x y v u _ I2 r1 r2 q2) λc s3 ⟨z,H3,I3,r3,k,e,q3⟩=>?_) hm
 subst e;cases r3;exact wpAny_truthy_bool ⟨H3,I3,q3⟩
theorem nD:(sizeLine:Nat)<2 ^ 63:=by rw[sizeLine_eq];decide
theorem wa:ft X (binaryOp .Add) (λx y H Q=>∃i j,x=.str i/\y=.str j/\i.length+j.length<=sizeLine/\Q (.str (i++j)) H):=by
 intro pins s σ H x y v u Q I rx ry h;obtain⟨i,j,rfl,rfl,hz,q⟩:=h;obtain⟨t,rfl⟩:=rx;obtain⟨t',rfl⟩:=ry;exact add_str (λt' tk=>⟨.str (i++j),H,I.tok _,⟨_,rfl⟩,q⟩) hz
theorem lM{x:V}{us:List Value}(r:Vals [x] us):∃u,us=[u]/\RelV x u:=by
 cases r with
 |cons r1 r2=>cases r2;exact⟨_,rfl,r1⟩
theorem A8{x y:V}{us:List Value}(r:Vals [x,y] us):∃u w',us=[u,w']/\RelV x u/\RelV y w':=by
 cases r with
 |cons r1 r2=>
  cases r2 with
  |cons r3 r4=>cases r4;exact⟨_,_,rfl,r1,r3⟩
theorem zT(hc:X.calm=true):cZ X (.builtin "min") (λxs H Q=>∃i j,xs=[.int i,.int j]/\Q (.int (if j<i then j else i)) H):=by
 intro pins s σ H xs us Q I r h;obtain⟨i,j,rfl,q⟩:=h;obtain⟨u,w',rfl,⟨t,rfl⟩,⟨t',rfl⟩⟩:=A8 r;refine min_two_ints (I.ok.hd hc) λh' tk k=>⟨_,H,I.kept k,?_,q⟩;by_cases hj:j<i
 ·rw[if_pos hj,if_pos hj];exact⟨_,rfl⟩
 ·rw[if_neg hj,if_neg hj];exact⟨_,rfl⟩
theorem ql:cZ X (.type "int") (λxs H Q=>(∃i,xs=[.int i]/\Q (.int i) H)\/∃k,xs=[.bl k]/\Q (.int (if k then 1 else 0)) H):=by
 intro pins s σ H xs us Q I r h;rcases h with⟨i,rfl,q⟩|⟨k,rfl,q⟩
 ·obtain⟨u,rfl,t,rfl⟩:=lM r;exact call_int_int ⟨.int i,H,I,⟨_,rfl⟩,q⟩
 ·obtain⟨u,rfl,r1⟩:=lM r;cases r1;exact call_int_bool ⟨.int (if k then 1 else 0),H,I.tok _,⟨_,rfl⟩,q⟩
end
structure xk(h:Heap)(x dx C:Addr)(mA:Str->Option Value):Prop where
 obj:h.get? x=some (instObj C dx)
 ns:h.Ns1 dx mA
 ne:dx≠x
theorem jo{h:Heap}{dx:Addr}{mA:Str->Option Value}(n:h.Ns1 dx mA):∃od,h.get? dx=some od/\∀name,PySem.W.lookIn name od=some (mA name):=by
 obtain⟨o,es,ep,ho,hd,hk,_,hm⟩:=n;refine⟨o,ho,λname=>?_⟩;have e:=hm name;unfold nsFind findBy at e;rw[←Array.find?_toList] at e;unfold PySem.W.lookIn;rw[hd];dsimp only;split
 ·rename_i y q;rw[q] at e;exact congrArg some e
 ·rename_i q;rw[q] at e;have a:es.toList.any (·.refKey)=false:=by
   rw[List.any_eq_false];intro y hy;obtain⟨z,t,hkey⟩:=hk y (Array.mem_toList_iff.mp hy);simp[DictEntry.refKey,hkey]
  have a':¬es.toList.any (·.refKey)=true:=by rw[a];exact Bool.false_ne_true
  rw[if_neg a'];exact congrArg some e
theorem xk.look{h:Heap}{x dx C:Addr}{mA:Str->Option Value}(I:xk h x dx C mA):∃od,PySem.W.InstAt h x (instObj C dx) C (some od)/\∀name,PySem.W.lookIn name od=some (mA name):=
 let ⟨od,ho,hl⟩:=jo I.ns
 ⟨od,⟨I.obj,rfl,rfl,ho⟩,hl⟩
section
variable{prog:Program}{w:World}{A:Around}{E:Value->Shared->Prop}{s:Shared}{K:Frag}{x dx C f:Addr}{mA:Str->Option Value}{name:Str}{v:Value}
theorem Ei{expr:Bool}{Q:Value->Shared->Prop}(X:K.In s.heap)(I:xk s.heap x dx C mA)(hg:plainGet K C name=true)(hh:PySem.W.hasDictIn K C=true)
  (ha:PySem.W.findIn K (.ref C) name=some none) (hv:mA name=some v) (hv':PySem.W.handedIn v=true) (h:Q v {s with toks:=s.toks+1}):
  wpAny (model prog w) A (getAttr (.ref x) name expr) Q E s:=by
 obtain⟨od,J,hl⟩:=I.look;exact PySem.W.get_value X J (plainGet_of hg).1 (PySem.W.findObj_own hh ha rfl (by rw[hl,hv])) hv' h
theorem BP{pl:Sem Bool}{Q:Value×List Value->Shared->Prop}(X:K.In s.heap)(I:xk s.heap x dx C mA)(hg:plainGet K C name=true)
  (hf:PySem.W.findIn K (.ref C) name=some (some (.ref f))) (ht:isFn K (.ref f)=true) (hv:mA name=none) (h:Q (.ref f,[.ref x]) s):
  wpAny (model prog w) A (getMethod (.ref x) name pl) Q E s:=by
 obtain⟨od,J,hl⟩:=I.look;exact PySem.W.method_fn X J (plainGet_of hg).1 (plainGet_of hg).2 hf (beq_iff_eq.mp ht) (by show(PySem.W.lookIn name od).map (·.isSome)=some false;rw[hl,hv];rfl) h
theorem Dc{ns:List Str}{Q:Unit->Shared->Prop}(X:K.In s.heap)(I:xk s.heap x dx C mA)
  (hs:PySem.W.findIn K (.ref C) "__setattr__" = some (some (.builtin "object.__setattr__"))) (hp:plainOver K C=true) (ht:takerIn K C name=some none) (hh:PySem.W.hasDictIn K C=true)
  (hw:PySem.Within mA ns) (hsz:ns.length<=sizeLine)
  (h:∀h',xk h' x dx C (λy=>if y=name then some v else mA y)->Heap.SameBut dx s.heap h'->Q () {s with heap:=h',toks:=s.toks+2}):
  wpAny (model prog w) A (setAttr (.ref x) name v) Q E s:=by
 obtain⟨od,J,hl⟩:=I.look;refine PySem.W.set_plain X J hs (PySem.W.osa_open (s:={s with toks:=s.toks+1}) (r:=none) X J hp ht λb=>?_);obtain⟨cd,hc,hd'⟩:=PySem.W.any_some hh;have hx:s.heap.get? x=some ⟨.ref C,some dx,.plain,#[]⟩:=I.obj;refine wpAny_bind (wpAny_pure (wpAny_bind (wpAny_bind (wpAny_loadPart hx (wpAny_bind (PySem.W.Looks.here (s:={s with toks:=s.toks+1}) (PySem.W.looks_clsIn X hc) ?_))))));rw[hd'];refine wpAny_pure (a:=some dx) (wpAny_bind (wpAny_pure (wpAny_bind ?_)));refine wpAny_nsSet1 (s:={s with toks:=s.toks+1}) I.ns λh' hn2 hs2=>?_;obtain⟨oD,esD,epD,hoD,hdD,hcD⟩:=hn2.count (PySem.Within.cons name v hw);refine wpAny_bind (wpAny_lookBehind hoD (by rw[hdD];exact pastItsLine_dict (le_trans hcD (by rw[length_cons];omega))) ?_)
 exact wpAny_pure (h _ ⟨(hs2.2 _ (Ne.symm I.ne)).trans I.obj,hn2,I.ne⟩ hs2)
theorem Bn{R:Result->Shared->Prop}{vs:List Value}{kw:List (Str×Value)}(X:K.In s.heap)(hm:makesIn K C=true)
  (hi:PySem.W.findIn K (.ref C) "__init__" = some (some (.ref f))) (hf:PySem.W.typeIn K (.ref f)=some (.type "function"))
  (h:codeAny (model prog w) (A.under (.builtin "type.__call__" ⟨.ref C::vs,kw⟩)) (.call (.ref f) ⟨.ref (s.heap.objs.size+1)::vs,kw⟩) (PySem.W.InitBack (s.heap.objs.size+1) R)
   {s with heap:=(s.heap.push PySem.W.emptyDict).push (instObj C s.heap.objs.size)}):
  codeAny (model prog w) A (.call (.ref C) ⟨vs,kw⟩) R s:=by
 obtain⟨hh,g,d,t,os⟩:=s;exact PySem.W.make_core (PySem.W.makes_of X hm) (PySem.W.looks_findIn X hi) (λself=>PySem.W.bind_fn X self hf) (.inl rfl) h
end
def iI(f:Str)(v:V):List (Str×V)->List (Str×V)
 |[]=>[(f,v)]
 | (g,x)::r=>if g=f then(g,v)::r else(g,x)::iI f v r
theorem lQ(f g:Str)(v:V):∀fs:List (Str×V),(iI f v fs).lookup g=if g=f then some v else fs.lookup g
 |[]=>by
  show List.lookup g [(f,v)]=_;by_cases h:g=f
  ·have hb:(g == f)=true:=beq_iff_eq.mpr h;simp only[List.lookup,hb,if_pos h]
  ·have hb:(g == f)=false:=beq_eq_false_iff_ne.mpr h;simp only[List.lookup,hb,if_neg h]
 | (k,x)::r=>by
  have ih:=lQ f g v r;rw[show iI f v ((k,x)::r)=(if k=f then(k,v)::r else(k,x)::iI f v r) from rfl];by_cases hk:k=f
  ·rw[if_pos hk];by_cases h:g=k
   ·have hb:(g == k)=true:=beq_iff_eq.mpr h;simp only[List.lookup,hb,if_pos (h.trans hk)]
   ·have hb:(g == k)=false:=beq_eq_false_iff_ne.mpr h;simp only[List.lookup,hb,if_neg (λe:g=f=>h (e.trans hk.symm))]
  ·rw[if_neg hk];by_cases h:g=k
   ·have hb:(g == k)=true:=beq_iff_eq.mpr h;simp only[List.lookup,hb,if_neg (λe:g=f=>hk (h.symm.trans e))]
   ·have hb:(g == k)=false:=beq_eq_false_iff_ne.mpr h;simp only[List.lookup,hb];exact ih
theorem lu(f:Str)(v:V):∀fs:List (Str×V),f∈(iI f v fs).map (·.1)/\∀g,g∈fs.map (·.1)->g∈(iI f v fs).map (·.1)
 |[]=>⟨by simp[iI],λg h=>by simp at h⟩
 | (k,x)::r=>by
  obtain⟨i1,i2⟩:=lu f v r;rw[show iI f v ((k,x)::r)=(if k=f then(k,v)::r else(k,x)::iI f v r) from rfl];by_cases hk:k=f
  ·rw[if_pos hk];subst hk;exact⟨by simp,λg h=>by simpa using h⟩
  ·rw[if_neg hk];refine⟨?_,λg h=>?_⟩
   ·rw[map_cons];exact mem_cons_of_mem _ i1
   ·rw[map_cons] at h ⊢;rcases mem_cons.mp h with e|e
    ·exact mem_cons.mpr (.inl e)
    ·exact mem_cons_of_mem _ (i2 g e)
theorem lS(f:Str)(v:V):∀fs:List (Str×V),(iI f v fs).length<=fs.length+1
 |[]=>by simp[iI]
 | (k,x)::r=>by
  have ih:=lS f v r;rw[show iI f v ((k,x)::r)=(if k=f then(k,v)::r else(k,x)::iI f v r) from rfl];by_cases hk:k=f
  ·rw[if_pos hk,length_cons,length_cons];omega
  ·rw[if_neg hk,length_cons,length_cons];omega
theorem RelO.some_of{v:V}{o:Option Value}(r:RelO (some v) o):∃u,o=some u/\RelV v u:=by
 cases o with
 |none=>exact(show False from r).elim
 |some u=>exact⟨u,rfl,r⟩
theorem RelO.none_of{o:Option Value}(r:RelO none o):o=none:=by
 cases o with
 |none=>rfl
 |some u=>exact(show False from r).elim
theorem qd{v:V}{u:Value}(r:RelV v u):PySem.W.handedIn u=true:=by
 cases v with
 |non=>cases (show u=Value.none from r);rfl
 |bl b=>cases (show u=Value.bool b from r);rfl
 |int i=>obtain⟨t,e⟩:=(show ∃t,u=Value.int i t from r);cases e;rfl
 |str x=>obtain⟨t,e⟩:=(show ∃t,u=Value.str x t from r);cases e;rfl
 |byt b=>obtain⟨t,e⟩:=(show ∃t,u=Value.bytes b t from r);cases e;rfl
 |flt b=>obtain⟨t,e⟩:=(show ∃t,u=Value.float b t from r);cases e;rfl
 |ref a=>cases (show u=Value.ref a from r);rfl
 |ty n=>cases (show u=Value.type n from r);rfl
section
variable{P:Program}{w:World}{H H':Hp}{h h':Heap}{a C dx:Addr}{fs fs':List (Str×V)}
theorem mH(hok:jB P w H h)(e:H a=some (.ins C dx fs)):∃mA,xk h a dx C mA/\(∀f,RelO (fs.lookup f) (mA f))/\PySem.Within mA (fs.map (·.1))/\fs.length<=1000/\H dx=some (.own a):=by
 obtain⟨d,z,ne,ob,mA,n,r,q⟩:=(show aY P w H h a (.ins C dx fs) from hok a _ e);exact⟨mA,⟨ob,n,ne⟩,r,q,z,d⟩
end
structure vj(K:Frag)(C:Addr):Prop where
 pg:plainGet K C Str.empty=true
 hd:PySem.W.hasDictIn K C=true
 po:plainOver K C=true
 sa:PySem.W.findIn K (.ref C) "__setattr__" = some (some (.builtin "object.__setattr__"))
theorem vj.get{K:Frag}{C:Addr}(c:vj K C)(f:Str):plainGet K C f=true:=c.pg
def fQ(K:Frag)(C:Addr)(f:Str):Prop:=PySem.W.findIn K (.ref C) f=some none
theorem fQ.taker{K:Frag}{C:Addr}{f:Str}(n:fQ K C f):takerIn K C f=some none:=by
 unfold takerIn;rw[show PySem.W.findIn K (.ref C) f=some none from n];rfl
structure Hw(K:Frag)(C:Addr)(m:Str)(f:Addr):Prop where
 at_:PySem.W.findIn K (.ref C) m=some (some (.ref f))
 fn:isFn K (.ref f)=true
 kp:PySem.W.keepIn K (.ref f)=true
section
variable{X:Cx}{pins:List (Addr×Obj)}{σ:St}{H:Hp}{s:Shared}{a C dx:Addr}{fs:List (Str×V)}{f:Str}{v:V}{A:Around}{E:Value->Shared->Prop}
theorem wL{b:Bool}{Q:Value->Shared->Prop}(I:ay X pins σ H s)(e:H a=some (.ins C dx fs))(c:vj X.K C)(n:fQ X.K C f)(l:fs.lookup f=some v)
  (h:∀u s',ay X pins σ H s'->RelV v u->Q u s'):wpAny (model X.prog X.w) A (getAttr (.ref a) f b) Q E s:=by
 obtain⟨mA,O,r,_,_,_⟩:=mH I.hok e;obtain⟨u,hu,ru⟩:=RelO.some_of (v:=v) (o:=mA f) (by rw[←l];exact r f)
 exact Ei I.kIn O (c.get f) c.hd n hu (qd ru) (h u _ (I.tok _) ru)
theorem nK{m:Str}{g:Addr}{pl:Sem Bool}{Q:Value×List Value->Shared->Prop}(I:ay X pins σ H s)(e:H a=some (.ins C dx fs))(c:vj X.K C)(k:Hw X.K C m g)(l:fs.lookup m=none)
  (h:Q (.ref g,[.ref a]) s):wpAny (model X.prog X.w) A (getMethod (.ref a) m pl) Q E s:=by
 obtain⟨mA,O,r,_,_,_⟩:=mH I.hok e;have hn:mA m=none:=RelO.none_of (by rw[←l];exact r m)
 exact BP I.kIn O (c.get m) k.at_ k.fn hn h
theorem vK{y:V}{u:Value}{Q:Unit->Shared->Prop}(I:ay X pins σ H s)(e:H a=some (.ins C dx fs))(c:vj X.K C)(n:fQ X.K C f)(hl:fs.length<1000)(ry:RelV y u)
  (h:∀s',ay X pins σ (aS H a (.ins C dx (iI f y fs))) s'->Q () s'):wpAny (model X.prog X.w) A (setAttr (.ref a) f u) Q E s:=by
 obtain⟨mA,O,r,wi,_,ho⟩:=mH I.hok e;have hz:(fs.map (·.1)).length<=sizeLine:=by rw[length_map,sizeLine_eq];omega
 refine Dc I.kIn O c.sa c.po n.taker c.hd wi hz λh' O' sb=>h _ ?_;have hd:∃o,h'.get? dx=some o:=let ⟨o,_,_,e',_⟩:=O'.ns;⟨o,e'⟩;refine I.write (x:=a) (e:=dx) (by rw[e];exact True.intro) (.inr ho) (λb q hb z=>(sb.2 b hb).trans z) hd ?_
 refine⟨by rw[ak O.ne];exact ho,?_,O.ne,O'.obj,_,O'.ns,λg=>?_,λg hg=>?_⟩
 ·have:=lS f y fs;omega
 ·show RelO ((iI f y fs).lookup g) (if g=f then some u else mA g);rw[lQ];by_cases q:g=f
  ·rw[if_pos q,if_pos q];exact ry
  ·rw[if_neg q,if_neg q];exact r g
 ·by_cases q:g=f
  ·rw[q];exact(lu f y fs).1
  ·refine(lu f y fs).2 g (wi g λz=>hg ?_);show(if g=f then some u else mA g)=none;rw[if_neg q];exact z
theorem ay.made(I:ay X pins σ H s):ay X pins σ (aS (aS H s.heap.objs.size (.own (s.heap.objs.size+1))) (s.heap.objs.size+1) (.ins C s.heap.objs.size []))
  {s with heap:=(s.heap.push PySem.W.emptyDict).push (instObj C s.heap.objs.size)}:=by
 have e1:(s.heap.push PySem.W.emptyDict).get? s.heap.objs.size=some PySem.W.emptyDict:=get?_push_size s.heap rfl;have e2:((s.heap.push PySem.W.emptyDict).push (instObj C s.heap.objs.size)).get? (s.heap.objs.size+1)=some (instObj C s.heap.objs.size):=by
  have:=get?_push_size (s.heap.push PySem.W.emptyDict) (o:=instObj C s.heap.objs.size) rfl;rwa[size_push] at this
 have e3:(s.heap.push PySem.W.emptyDict).Ns s.heap.objs.size (λ_=>none):=⟨PySem.W.emptyDict,#[],_,e1,rfl,(λe he=>absurd he (by simp)),λ_=>rfl⟩
 have I1:=I.laid (a:=s.heap.objs.size) (o:=.own (s.heap.objs.size+1)) (h':=s.heap.push PySem.W.emptyDict) (t':=s.toks) (λb u q=>get?_push_of_some _ q) (le_refl _) ⟨_,e1⟩;refine I1.laid (a:=s.heap.objs.size+1) (o:=.ins C s.heap.objs.size []) (t':=s.toks) (λb u q=>get?_push_of_some _ q) (le_of_eq (size_push _ _)) ?_;have ne:s.heap.objs.size≠s.heap.objs.size+1:=ne_of_lt (Nat.lt_succ_self _);refine⟨by rw[ak ne,aq],zero_le _,ne,e2,λ_=>none,(Heap.Ns1.of_empty e3).at λo q=>get?_push_of_some _ q,λ_=>True.intro,λy hy=>absurd rfl hy⟩
theorem ye{prog:Program}{w:World}{env:Env}{e:Expr}{f:Str}{pos:Pos}{s:Shared}{Q:Value->Shared->Prop}(hb:attributeBase e f env (eval e env)=eval e env)
  (h:wpAny (model prog w) A (eval e env) (λo s₁=>wpAny (model prog w) A (getAttr o f true) Q E s₁) E s):wpAny (model prog w) A (eval (.Attribute e f pos) env) Q E s:=
 Attribute_any_ h (by rw[arm_eval_Attribute,hb])
end
def JT(K:Frag)(ta:TE)(f:Str):TE:=λσ H Q=>ta σ H λx H1=>∃a C dx fs v,x=.ref a/\H1 a=some (.ins C dx fs)/\vj K C/\fQ K C f/\fs.lookup f=some v/\Q v H1
def JY(K:Frag)(ta tv:TE)(f:Str):TS:=λD σ H=>tv σ H λy H1=>ta σ H1 λx H2=>∃a C dx fs,x=.ref a/\H2 a=some (.ins C dx fs)/\vj K C/\fQ K C f/\fs.length<1000/\
 D.nx σ (aS H2 a (.ins C dx (iI f y fs)))
section
variable{X:Cx}{o e value:Expr}{f:Str}{pos pos' tpos:Pos}{ta tv:TE}
theorem G9(he:PE X e ta)(hb:attributeBase e f X.env (eval e X.env)=eval e X.env):PE X (.Attribute e f pos) (JT X.K ta f):=by
 intro pins s σ H Q I h;refine ye hb (bW (he pins s σ H _ I h) λu s1 ⟨x,H1,I1,rx,a,C,dx,fs,v,ex,ea,c,n,l,q⟩=>?_);subst ex;obtain rfl:u=Value.ref a:=rx;exact wL I1 ea c n l λu' s2 I2 ru=>⟨v,H1,I2,ru,q⟩
theorem G0(ha:PE X o ta)(hv:PE X value tv)(hs:swapsWith value (some (.Attribute o f pos')) pos.line X.env=pure false):PS X (.Assign [.Attribute o f pos'] value pos) (JY X.K ta tv f):=by
 intro pins s σ H D I h;refine plainObj_wpAny_Assign_Attribute (bW (hv pins s σ H _ I h) λu s1 ⟨y,H1,I1,ry,q⟩=>bW (ha pins s1 σ H1 _ I1 q) λov s2 ⟨x,H2,I2,rx,a,C,dx,fs,ex,ea,c,n,l,q2⟩=>?_) hs;subst ex;obtain rfl:ov=Value.ref a:=rx;exact vK I2 ea c n l ry λs3 I3=>⟨σ,_,I3,q2⟩
end
section
variable{X:Cx}{pins:List (Addr×Obj)}{σ:St}{H:Hp}{s:Shared}{A:Around}{E:Value->Shared->Prop}{Q:Value->Shared->Prop}{c:Value}{b:Bool}
inductive kf(K:Frag)(H:Hp):V->Value->Prop where
 |non:kf K H .non (.type "NoneType")
 |bl (x:Bool):kf K H (.bl x) (.type "bool")
 |int (i:Int):kf K H (.int i) (.type "int")
 |str (x:Str):kf K H (.str x) (.type "str")
 |flt (x:UInt64):kf K H (.flt x) (.type "float")
 |lst {a:Addr} {xs:List V} (e:H a=some (.lst xs)):kf K H (.ref a) (.type "list")
 |frz {a:Addr} {o:Obj} {xs:List V} (e:H a=some (.frz o (.lst xs))):kf K H (.ref a) (.type "list")
 |tup {a:Addr} {xs:List V} (e:H a=some (.tup xs)):kf K H (.ref a) (.type "tuple")
 |dK {a:Addr} {kvs:List (Key×V)} (e:H a=some (.dK kvs)):kf K H (.ref a) (.type "dict")
 |dT {a:Addr} {kvs:List (List Key×V)} (e:H a=some (.dT kvs)):kf K H (.ref a) (.type "dict")
 |ins {a C dx:Addr} {fs:List (Str×V)} (e:H a=some (.ins C dx fs)) (cl:vj K C) (ha:PySem.W.findIn K (.ref C) "__class__" = some (some (.builtin "object.__class__")))
   (hn:PySem.W.specialIn K (.builtin "object.__class__") "__get__" = some (some (.builtin "getset_descriptor.__get__"))) (htk:PySem.W.takesIn K (.builtin "object.__class__")=some true)
   (hm:PySem.W.mroIn K C (.type "object")=some true):kf K H (.ref a) (.ref C)
theorem zI{x:V}{u t:Value}(I:ay X pins σ H s)(rx:RelV x u)(ty:kf X.K H x t)(e:PySem.W.kitOne X.K t c=some b)(h:∀tk,Q (.bool b) {s with toks:=tk}):
  wpAny (model X.prog X.w) A (call (.builtin "isinstance") [u,c]) Q E s:=by
 cases ty with
 |non=>cases (show u=Value.none from rx);exact PySem.W.kia_one PySem.W.kitx_none I.kIn True.intro e (λz=>nomatch z) h
 |bl y=>cases (show u=Value.bool y from rx);exact PySem.W.kia_one PySem.W.kitx_bool I.kIn True.intro e (λz=>nomatch z) h
 |int i=>obtain⟨t,q⟩:=(show ∃t,u=Value.int i t from rx);cases q;exact PySem.W.kia_one PySem.W.kitx_int I.kIn True.intro e (λz=>nomatch z) h
 |str y=>obtain⟨t,q⟩:=(show ∃t,u=Value.str y t from rx);cases q;exact PySem.W.kia_one PySem.W.kitx_str I.kIn True.intro e (λz=>nomatch z) h
 |flt y=>obtain⟨t,q⟩:=(show ∃t,u=Value.float y t from rx);cases q;exact PySem.W.kia_one PySem.W.kitx_float I.kIn True.intro e (λz=>nomatch z) h
 |@lst a xs ea=>
  cases (show u=Value.ref a from rx);obtain⟨_,_,n,_,h1⟩:=(show aY X.prog X.w H s.heap a (.lst xs) from I.hok a _ ea);exact PySem.W.kia_one kitx_list I.kIn ⟨_,h1,rfl⟩ e (λz=>nomatch z) h
 |@frz a ob xs ea=>
  cases (show u=Value.ref a from rx);obtain⟨_,_,_,n,_,h1⟩:=(show aY X.prog X.w H s.heap a (.frz ob (.lst xs)) from I.hok a _ ea);exact PySem.W.kia_one kitx_list I.kIn ⟨_,h1,rfl⟩ e (λz=>nomatch z) h
 |@tup a xs ea=>
  cases (show u=Value.ref a from rx);obtain⟨_,_,_,p⟩:=(show aY X.prog X.w H s.heap a (.tup xs) from I.hok a _ ea);obtain⟨o,h1,h2,_⟩:=p;exact PySem.W.kia_one PySem.W.kitx_tuple I.kIn ⟨o,h1,h2⟩ e (λz=>nomatch z) h
 |@dK a kvs ea=>
  cases (show u=Value.ref a from rx);obtain⟨_,_,vs,_,p⟩:=(show aY X.prog X.w H s.heap a (.dK kvs) from I.hok a _ ea);obtain⟨o,es,ep,h1,h2,_⟩:=p;exact PySem.W.kia_one kitx_dict I.kIn ⟨o,h1,h2.1⟩ e (λz=>nomatch z) h
 |@dT a kvs ea=>
  cases (show u=Value.ref a from rx);obtain⟨_,_,xs,_,o,es,ep,h1,h2,_⟩:=(show aY X.prog X.w H s.heap a (.dT kvs) from I.hok a _ ea);exact PySem.W.kia_one kitx_dict I.kIn ⟨o,h1,h2.1⟩ e (λz=>nomatch z) h
 |@ins a C dx fs ea cl ha hn htk hm=>
  cases (show u=Value.ref a from rx);obtain⟨mA,O,_⟩:=mH I.hok ea;obtain⟨od,J,_⟩:=O.look;exact PySem.W.kia_one (PySem.W.kitx_own (cl.get _) cl.hd ha hn htk hm) I.kIn J e (λz=>nomatch z) h
end
structure ba(k:Nat)(A:Around):Prop where
 hd:A.handled=none
 dp:A.depth+3 * k+5<recursionLimit
 un:A.units+16 * k+200<cLine
theorem ba.mono{j k:Nat}{A:Around}(r:ba k A)(h:j<=k):ba j A:=⟨r.hd,by have:=r.dp;omega,by have:=r.un;omega⟩
theorem ba.deeper{k:Nat}{A:Around}(r:ba (k+1) A)(env:Env):ba k (A.deeper env):=
 ⟨r.hd,by have:=r.dp;show A.depth+1+3 * k+5<_;omega,by have:=r.un;show A.units+3+16 * k+200<_;omega⟩
theorem ba.in1{k:Nat}{A:Around}(r:ba (k+1) A):ba k A.in1:=
 ⟨r.hd,by have:=r.dp;show A.depth+3 * k+5<_;omega,by have:=r.un;show A.units+1+16 * k+200<_;omega⟩
theorem wy{A:Around}{C:Addr}{us:List Value}{kw:List (Str×Value)}:(A.under (.builtin "type.__call__" ⟨.ref C::us,kw⟩)).depth=A.depth+1:=by
 first|rfl|simp[Around.under,Code.weight,Code.isCreation,Code.isGuard,Code.isCaller,Code.frames,Code.isFrame,guardIds]
theorem wx{A:Around}{C:Addr}{us:List Value}{kw:List (Str×Value)}:(A.under (.builtin "type.__call__" ⟨.ref C::us,kw⟩)).units=A.units+1:=by
 first|rfl|simp[Around.under,Code.cUnits,Code.frames,Code.isFrame]
theorem ba.make{k:Nat}{A:Around}(r:ba (k+1) A)(C:Addr)(us:List Value)(kw:List (Str×Value)):ba k (A.under (.builtin "type.__call__" ⟨.ref C::us,kw⟩)):=
 ⟨r.hd,by have:=r.dp;rw[wy];omega,by have:=r.un;rw[wx];omega⟩
theorem ba.depth{k:Nat}{A:Around}(r:ba k A):A.depth<recursionLimit:=by have:=r.dp;omega
theorem ba.units{k:Nat}{A:Around}(r:ba k A):A.units+64<cLine:=by have:=r.un;omega
def FM:TA:=λ_ H Q=>Q [] H
def sV(ta:TE)(tr:TA):TA:=λσ H Q=>ta σ H λx H1=>tr σ H1 λxs H2=>Q (x::xs) H2
section
variable{X:Cx}{e:Expr}{es:List Expr}{te:TE}{t:TA}{pos:Pos}
theorem eY:PA X [] FM:=λ_ _ _ _ H Q I h=>Calls.spliced_nil ⟨[],H,I,.nil,h⟩
theorem bF(ha:PE X e te)(hr:PA X es t)(hs:starEach (e::es) X.env=(false,eval e X.env)::starEach es X.env:=by rfl):PA X (e::es) (sV te t):=by
 intro pos pins s σ H Q I h;rw[hs];show wpAny _ _ (spliced ((false,eval e X.env)::backTo pos (starEach es X.env))) _ _ s;refine Calls.spliced_cons (bW (ha pins s σ H _ I h) λu s1 ⟨x,H1,I1,r1,q1⟩=>?_);exact bW (hr pos pins s1 σ H1 _ I1 q1) λus s2 ⟨xs,H2,I2,r2,q2⟩=>⟨x::xs,H2,I2,.cons r1 r2,q2⟩
def JK(t:TA):TE:=λσ H Q=>t σ H λxs H1=>xs.length<=sizeLine/\∀p,H1 p=none->Q (.ref p) (aS H1 p (.tup xs))
def JO(t:TA):TE:=λσ H Q=>t σ H λxs H1=>xs.length<=sizeLine/\∀p,H1 p=none->Q (.ref p) (aS H1 p (.lst xs))
theorem AH{x1}(h:PA X es t):PE X (.Tuple es x1 pos) (JK t):=by
 intro pins s σ H Q I hq;refine wpAny_Tuple_spliced (bW (h pos pins s σ H _ I hq) λus s1 ⟨xs,H1,I1,r,z,q⟩=>⟨by rw[←r.length];exact z,?_⟩)
 have hf:H1 s1.heap.objs.size=none:=I1.hok.fresh (le_refl _);refine⟨.ref s1.heap.objs.size,aS H1 s1.heap.objs.size (.tup xs),I1.laid (t':=s1.toks) (λb u e=>get?_push_of_some _ e) (le_refl _) ?_,rfl,q _ hf⟩;exact⟨z,us,r,⟨_,get?_push_size _ rfl,rfl,_,rfl⟩⟩
theorem G7(h:PA X es t):PE X (.List es pos) (JO t):=by
 intro pins s σ H Q I hq;refine wpAny_List_spliced (bW (h pos pins s σ H _ I hq) λus s1 ⟨xs,H1,I1,r,z,q⟩=>⟨by rw[←r.length];exact z,?_⟩)
 have hf:H1 s1.heap.objs.size=none:=I1.hok.fresh (le_refl _);refine⟨.ref s1.heap.objs.size,aS H1 s1.heap.objs.size (.lst xs),I1.laid (t':=s1.toks) (λb u e=>get?_push_of_some _ e) (le_refl _) ?_,rfl,q _ hf⟩;exact⟨z,us,0,r,get?_push_size _ rfl⟩
end
abbrev Sp:=List V->Hp->VK->XK->Prop
abbrev ym:=List Env->Hp->Shared->XK->Value->Shared->Prop
structure jf(P:Program)(w:World)(K:Frag)(mg:Str->Option Value)(base:Heap)(A:Around)(outer:List Env)(s:Shared)(H:Hp):Prop where
 frames:A.frames=some outer
 mod:Mod K mg base
 bs:∀b o,base.get? b=some o->s.heap.get? b=some o/\H b=none
 bsz:base.objs.size<=s.heap.objs.size
 funs:s.heap.FunFrames base outer
 frf:∀b∈frs outer,H b=none
 hok:jB P w H s.heap
 bare:AllBare s.gens
def CE(outer:List Env)(P:Program)(w:World)(H:Hp)(s:Shared)(Q:VK)(u:Value)(s':Shared):Prop:=
 ∃v H',s'.os=s.os/\AllBare s'.gens/\Un (frs outer) [] H H' s.heap s'.heap/\jB P w H' s'.heap/\RelV v u/\Q v H'
def CR(CX:ym)(outer:List Env)(P:Program)(w:World)(H:Hp)(s:Shared)(Q:VK)(E:XK)(r:Result)(s':Shared):Prop:=
 match r with
 |.ok (.ret u)=>CE outer P w H s Q u s'
 |.ok _=>False
 |.error e=>CX outer H s E e s'
structure bV(P:Program)(w:World)(K:Frag)(mg:Str->Option Value)(base:Heap)(CX:ym)(k:Nat)(f:Addr)(fd:FuncData)(ps:List Str)(sp:Sp):Prop where
 len:∀vs H Q E,sp vs H Q E->vs.length=ps.length
 run:∀(A:Around)(outer:List Env)(s:Shared)(H:Hp)(args:Args)(us:List Value)(vs:List V)(Q:VK)(E:XK),ba k A->jf P w K mg base A outer s H->BindsTo s fd args (ps.zip us)->Vals vs us->sp vs H Q E->
  codeAny (model P w) A (.call (.ref f) args) (CR CX outer P w H s Q E) s
theorem bV.mono{P:Program}{w:World}{K:Frag}{mg:Str->Option Value}{base:Heap}{CX:ym}{j k:Nat}{f:Addr}{fd:FuncData}{ps:List Str}{sp:Sp}(F:bV P w K mg base CX j f fd ps sp)(h:j<=k):
  bV P w K mg base CX k f fd ps sp:=⟨F.len,λA outer s H args us vs Q E hr=>F.run A outer s H args us vs Q E (hr.mono h)⟩
theorem bV.imp{P:Program}{w:World}{K:Frag}{mg:Str->Option Value}{base:Heap}{CX:ym}{k:Nat}{f:Addr}{fd:FuncData}{ps:List Str}{sp sp':Sp}(F:bV P w K mg base CX k f fd ps sp)
  (h:∀vs H Q E,sp' vs H Q E->sp vs H Q E):bV P w K mg base CX k f fd ps sp':=
 ⟨λvs H Q E q=>F.len vs H Q E (h _ _ _ _ q),λA outer s H args us vs Q E hr he hb hv hs=>F.run A outer s H args us vs Q E hr he hb hv (h _ _ _ _ hs)⟩
theorem jf.make{P:Program}{w:World}{K:Frag}{mg:Str->Option Value}{base:Heap}{A:Around}{outer:List Env}{s:Shared}{H:Hp}(e:jf P w K mg base A outer s H)(C:Addr)(us:List Value)(kw:List (Str×Value)):
  jf P w K mg base (A.under (.builtin "type.__call__" ⟨.ref C::us,kw⟩)) outer s H:=⟨by first|exact e.frames|(simpa [Around.under,Code.envs,Code.isFrame,pushEnvs] using e.frames),e.mod,e.bs,e.bsz,e.funs,e.frf,e.hok,e.bare⟩
theorem jf.in1{P:Program}{w:World}{K:Frag}{mg:Str->Option Value}{base:Heap}{A:Around}{outer:List Env}{s:Shared}{H:Hp}(e:jf P w K mg base A outer s H):
  jf P w K mg base A.in1 outer s H:=⟨e.frames,e.mod,e.bs,e.bsz,e.funs,e.frf,e.hok,e.bare⟩
section
variable{X:Cx}{pins:List (Addr×Obj)}{σ:St}{H:Hp}{s s':Shared}
theorem ay.env0(I:ay X pins σ H s):jf X.prog X.w X.K X.mg X.base X.A X.stack s H:=
 ⟨I.ok.frames,I.ok.mod,I.bs,le_trans I.ok.bsz I.sz,I.stack,I.stkFree,I.hok,I.bare⟩
theorem ay.after{Q:VK}{u:Value}(I:ay X pins σ H s)(h:CE X.stack X.prog X.w H s Q u s'):EP X pins σ Q u s':=by
 obtain⟨v,H',os,bare,un,hok,r,q⟩:=h;obtain⟨hh,g,d,t,os'⟩:=s';obtain rfl:os'=s.os:=os;exact⟨v,H',I.call (h':=hh) (g':=g) (d':=d) (t':=t) (ch:=[]) un hok bare (λb z=>absurd z (by simp)),r,q⟩
end
def Fc(sp:Sp)(dvs:List V)(E:XK)(t:TA):TE:=λσ H Q=>t σ H λvs H1=>sp (vs++dvs) H1 Q E
def HV(C:Addr)(sp:Sp)(dvs:List V)(E:XK)(t:TA):TE:=λσ H Q=>t σ H λvs H1=>∀x dx,H1 x=none->H1 dx=none->dx≠x->
 sp (.ref x::(vs++dvs)) (aS (aS H1 dx (.own x)) x (.ins C dx [])) (λv H2=>v=.non/\Q (.ref x) H2) E
def bO(K:Frag)(fd:FuncData)(ps:List Str)(ds:List Value):Prop:=
 ∀(s:Shared)(us:List Value),K.In s.heap->(us++ds).length=ps.length->BindsTo s fd ⟨us,[]⟩ (ps.zip (us++ds))
theorem bO.all{K:Frag}{fd:FuncData}{ps:List Str}(h:∀us:List Value,us.length=ps.length->bindArgs fd ⟨us,[]⟩=pure (ps.zip us)):bO K fd ps []:=λs us _ hl=>by
 rw[append_nil] at hl ⊢;exact .of_eq (h us hl)
def jd(CX:ym)(X:Cx)(E:XK):Prop:=∀(pins:List (Addr×Obj))(σ:St)(H:Hp)(s:Shared)(e:Value)(s':Shared),ay X pins σ H s->CX X.stack H s E e s'->X.xe e s'
section
variable{X:Cx}{CX:ym}{k:Nat}{f C:Addr}{fd:FuncData}{ps:List Str}{sp:Sp}{dvs:List V}{ds:List Value}{E:XK}{x m:Str}{p pos apos:Pos}{e o:Expr}{es:List Expr}{ta:TE}{t:TA}
theorem qQ{pins:List (Addr×Obj)}{σ:St}{H:Hp}{s:Shared}{Q:VK}{us:List Value}{vs:List V}(F:bV X.prog X.w X.K X.mg X.base CX k f fd ps sp)(hr:ba k X.A)(hb:bO X.K fd ps ds)(hd:Vals dvs ds)(hx:jd CX X E)
  (I:ay X pins σ H s) (r:Vals vs us) (h:sp (vs++dvs) H Q E):wpAny (model X.prog X.w) X.A (call (.ref f) us) (EP X pins σ Q) X.xe s:=by
 have r2:Vals (vs++dvs) (us++ds):=r.append hd;have hl:(us++ds).length=ps.length:=by rw[←r2.length];exact F.len _ _ _ _ h
 refine wpAny_call (codeAny_mono (F.run X.A X.stack s H ⟨us,[]⟩ (us++ds) (vs++dvs) Q E hr I.env0 (hb s us I.kIn hl) r2 h) λr s' hq=>?_);cases r with
 |error e=>exact hx pins σ H s e s' I hq
 |ok fl=>
  cases fl with
  |ret u=>exact I.after hq
  |next=>exact False.elim hq
  |brk=>exact False.elim hq
  |cont=>exact False.elim hq
theorem r6(F:bV X.prog X.w X.K X.mg X.base CX k f fd ps sp)(hr:ba k X.A)(hg:Gl X x)(hm:X.mg x=some (.ref f))(hk:PySem.W.keepIn X.K (.ref f)=true)(hb:bO X.K fd ps ds)(hd:Vals dvs ds)(hx:jd CX X E)
  (ha:PA X (e::es) t) (hdb:(x == ("__debug__":Str))=false:=by decide) (he:starEach (e::es) X.env=(false,eval e X.env)::starEach es X.env:=by rfl) (hpl:(backTo pos (starEach es X.env)).any (·.1)=false:=by rfl):
  PE X (.Call (.Name x p) (e::es) [] pos) (Fc sp dvs E t):=by
 intro pins s σ H Q I h;refine wpAny_Call_Name_kw (i7 I hg hm ?_ hdb);refine PySem.W.callWith_K (h₀:=X.base) I.ok.mod.kin hk (bW (ha pos pins s σ H _ I h) λus s1 ⟨vs,H1,I1,r,q⟩=>⟨I1.kIn,?_⟩) he hpl;exact qQ F hr hb hd hx I1 r q
structure Mk(K:Frag)(C f:Addr):Prop where
 makes:makesIn K C=true
 init:PySem.W.findIn K (.ref C) "__init__" = some (some (.ref f))
 fn:isFn K (.ref f)=true
 kp:PySem.W.keepIn K (.ref C)=true
theorem Ao{pins:List (Addr×Obj)}{σ:St}{H:Hp}{s:Shared}{Q:VK}{us:List Value}{vs:List V}(M:Mk X.K C f)(F:bV X.prog X.w X.K X.mg X.base CX k f fd ps sp)(hr:ba (k+1) X.A)(hb:bO X.K fd ps ds)(hd:Vals dvs ds)
  (hx:jd CX X E) (I:ay X pins σ H s) (r:Vals vs us)
  (h:∀x dx,H x=none->H dx=none->dx≠x->sp (.ref x::(vs++dvs)) (aS (aS H dx (.own x)) x (.ins C dx [])) (λv H2=>v=.non/\Q (.ref x) H2) E):
  wpAny (model X.prog X.w) X.A (call (.ref C) us) (EP X pins σ Q) X.xe s:=by
 have hq:=h (s.heap.objs.size+1) s.heap.objs.size (I.hok.fresh (le_succ _)) (I.hok.fresh (le_refl _)) (ne_of_lt (Nat.lt_succ_self _));have I2:=ay.made (C:=C) I;have r2:Vals (V.ref (s.heap.objs.size+1)::(vs++dvs)) (Value.ref (s.heap.objs.size+1)::(us++ds)):=.cons rfl (r.append hd);have hl:(Value.ref (s.heap.objs.size+1)::us++ds).length=ps.length:=by
  have e:=r2.length;rw[F.len _ _ _ _ hq] at e;exact e.symm
 refine wpAny_call (Bn (f:=f) I.kIn M.makes M.init (beq_iff_eq.mp M.fn) (codeAny_mono (F.run _ X.stack _ _ ⟨Value.ref (s.heap.objs.size+1)::us,[]⟩ (Value.ref (s.heap.objs.size+1)::(us++ds)) _ _ E (hr.make C us [])
  (I2.env0.make C us []) (hb _ (Value.ref (s.heap.objs.size+1)::us) I2.kIn hl) r2 hq) λr s' hq'=>?_))
 cases r with
 |error e=>exact hx pins σ _ _ e s' I2 hq'
 |ok fl=>
  cases fl with
  |ret u=>
   obtain⟨v,H',I3,rv,ev,q3⟩:=I2.after hq';subst ev;exact⟨rv,⟨V.ref (s.heap.objs.size+1),H',I3,rfl,q3⟩⟩
  |next=>exact False.elim hq'
  |brk=>exact False.elim hq'
  |cont=>exact False.elim hq'
theorem Dy(M:Mk X.K C f)(F:bV X.prog X.w X.K X.mg X.base CX k f fd ps sp)(hr:ba (k+1) X.A)(hg:Gl X x)(hm:X.mg x=some (.ref C))(hb:bO X.K fd ps ds)(hd:Vals dvs ds)(hx:jd CX X E)
  (ha:PA X (e::es) t) (hdb:(x == ("__debug__":Str))=false:=by decide) (he:starEach (e::es) X.env=(false,eval e X.env)::starEach es X.env:=by rfl) (hpl:(backTo pos (starEach es X.env)).any (·.1)=false:=by rfl):
  PE X (.Call (.Name x p) (e::es) [] pos) (HV C sp dvs E t):=by
 intro pins s σ H Q I h;refine wpAny_Call_Name_kw (i7 I hg hm ?_ hdb);refine PySem.W.callWith_K (h₀:=X.base) I.ok.mod.kin M.kp (bW (ha pos pins s σ H _ I h) λus s1 ⟨vs,H1,I1,r,q⟩=>⟨I1.kIn,?_⟩) he hpl;exact Ao M F hr hb hd hx I1 r q
end
structure ax(N P:List Str)(sc:Scope):Prop where
 kind:sc.kind=.function
 co:sc.isCoroutine=false
 gen:sc.isGenerator=false
 nd:N.Nodup
 pre:N.take P.length=P
 par:∀x∈P,sc.names.lookup x=some .local\/sc.names.lookup x=some .cell
 nofree:∀y∈sc.names,y.2≠.free
theorem qo{kindOf:Str->Option NameKind}{x:Str}:∀{binds:List (Str×Value)}{m:Str->Option Value},(∀v,(x,v)∉binds)->bindL kindOf binds m x=m x
 |[],_,_=>rfl
 | (n,v)::r,m,h=>by
  unfold bindL;rw[qo λw hw=>h w (mem_cons_of_mem _ hw)];split
  ·have:x≠n:=by rintro rfl;exact h v mem_cons_self
   simp[this]
  ·rfl
theorem qr{kindOf:Str->Option NameKind}{x:Str}:∀{binds:List (Str×Value)}{m:Str->Option Value},(∀v,(x,v)∉binds)->bindC kindOf binds m x=m x
 |[],_,_=>rfl
 | (n,v)::r,m,h=>by
  unfold bindC;rw[qr λw hw=>h w (mem_cons_of_mem _ hw)];split
  ·rfl
  ·have:x≠n:=by rintro rfl;exact h v mem_cons_self
   simp[this]
theorem qp{kindOf:Str->Option NameKind}{x:Str}{v:Value}:∀{P:List Str}{vs:List Value}{i:Nat}{m:Str->Option Value},P.Nodup->P[i]?=some x->vs[i]?=some v->kindOf x=some .local->
  bindL kindOf (P.zip vs) m x=some v
 |[],_,_,_,_,h,_,_=>by simp at h
 |_::_,[],_,_,_,_,h,_=>by simp at h
 |p::P,w::vs,0,m,nd,h1,h2,hk=>by
  simp at h1 h2;subst h1;subst h2;show bindL kindOf ((p,w)::P.zip vs) m p=_;unfold bindL;rw[qo λv hv=>(nodup_cons.mp nd).1 (of_mem_zip hv).1,if_pos hk];simp
 |p::P,w::vs,i+1,m,nd,h1,h2,hk=>by
  show bindL kindOf ((p,w)::P.zip vs) m x=_;unfold bindL;exact qp (i:=i) (nodup_cons.mp nd).2 (by simpa using h1) (by simpa using h2) hk
theorem qt{kindOf:Str->Option NameKind}{x:Str}{v:Value}:∀{P:List Str}{vs:List Value}{i:Nat}{m:Str->Option Value},P.Nodup->P[i]?=some x->vs[i]?=some v->kindOf x≠some .local->
  bindC kindOf (P.zip vs) m x=some v
 |[],_,_,_,_,h,_,_=>by simp at h
 |_::_,[],_,_,_,_,h,_=>by simp at h
 |p::P,w::vs,0,m,nd,h1,h2,hk=>by
  simp at h1 h2;subst h1;subst h2;show bindC kindOf ((p,w)::P.zip vs) m p=_;unfold bindC;rw[qr λv hv=>(nodup_cons.mp nd).1 (of_mem_zip hv).1,if_neg hk];simp
 |p::P,w::vs,i+1,m,nd,h1,h2,hk=>by
  show bindC kindOf ((p,w)::P.zip vs) m x=_;unfold bindC;exact qt (i:=i) (nodup_cons.mp nd).2 (by simpa using h1) (by simpa using h2) hk
def start(N:List Str)(vs:List V):St:=vs.map some++replicate (N.length - vs.length) none
def iB(CX:ym)(P:Program)(w:World)(K:Frag)(mg:Str->Option Value)(base:Heap)(N:List Str)(qual:Str)(scope:Scope)(f:Addr)(cd:Value)(A:Around)(outer:List Env)(s:Shared)(H:Hp)(E:XK):Cx where
 prog:=P
 w:=w
 K:=K
 mg:=mg
 base:=base
 A:=A.deeper (envOfC qual scope s.heap.objs.size f cd)
 N:=N
 s₀:=s
 H₀:=H
 env:=envOfC qual scope s.heap.objs.size f cd
 outer:=outer
 stack:=envOfC qual scope s.heap.objs.size f cd::outer
 ex:=[]
 calm:=true
 fn:=λ_=>true
 pn:=[]
 xe:=λe s'=>wpAny (model P w) (A.deeper (envOfC qual scope s.heap.objs.size f cd)) (leaving (envOfC qual scope s.heap.objs.size f cd) e) (λ_ s''=>CX outer H s E e s'') (λe' s''=>CX outer H s E e' s'') s'
theorem kM{sc:Scope}{n:Nat}{x:Str}(h:sc.names.lookup x=some .cell):∃c,(cellsFrom n sc.names []).lookup x=some c:=by
 have q:=cellsFrom_some sc.names n [] (.inl h);exact Option.isSome_iff_exists.mp q
theorem pW{CX:ym}{P:Program}{w:World}{K:Frag}{mg:Str->Option Value}{base:Heap}{N ps:List Str}{qual:Str}{scope:Scope}{f:Addr}{cd:Value}{A:Around}{outer:List Env}{s s1:Shared}{H:Hp}{E:XK}{us:List Value}{vs:List V}
  (S:ax N ps scope) (hd:A.handled=none) (e0:jf P w K mg base A outer s H) (hl:vs.length=ps.length) (r:Vals vs us)
  (x:InCallC s s.heap.objs.size (bindL (envOfC qual scope s.heap.objs.size f cd).kindOf (ps.zip us) λ_=>none) (cellsFrom (s.heap.objs.size+1) scope.names []) (bindC (envOfC qual scope s.heap.objs.size f cd).kindOf (ps.zip us) λ_=>none) s1):
  ay (iB CX P w K mg base N qual scope f cd A outer s H E) [] (start N vs) H s1:=by
 have hpl:ps.length<=N.length:=by have:=congrArg List.length S.pre;rw[length_take] at this;omega
 obtain⟨h1,tk,rfl,hk⟩:=x.done;have noA:∀b:Addr,b∉(iB CX P w K mg base N qual scope f cd A outer s H E).ex:=λb z=>absurd (show b∈([]:List Addr) from z) (by simp)
 refine⟨⟨e0.mod,S.kind,rfl,rfl,le_refl _,λy z c h1 h2=>?_,λy hy=>?_,λy c _ h=>?_,λ_=>hd,Around.frames_deeper e0.frames,.inr ⟨rfl,rfl⟩,λb z=>absurd z (noA b),e0.bs,e0.bsz,λb _ _=>noA b,λb z=>absurd z (noA b),e0.funs,e0.frf⟩,
  rfl,e0.bare,Un.kept hk,⟨_,x.toInCall.ns,λi y v h1 h2 h3=>?_⟩,λy c h=>⟨_,x.cell y c h⟩,e0.hok.fresh (le_refl _),λy c h=>?_,λp hp=>absurd (show p∈([]:List (Addr×Obj)) from hp) (by simp),e0.hok.kept hk,?_⟩
 ·exact name_of_addr x.apart (PySem.mem_of_lookup h1) (PySem.mem_of_lookup h2)
 ·have hy:scope.names.lookup y=some .cell\/scope.names.lookup y=some .free:=hy;rcases hy with hy|hy
  ·exact kM hy
  ·exact absurd rfl (S.nofree _ (PySem.mem_of_lookup hy))
 ·exact le_of_lt (x.above y c (PySem.mem_of_lookup h))
 ·have hi:i<vs.length:=by
   unfold start at h2;by_cases hi:i<vs.length
   ·exact hi
   ·rw[getElem?_append_right (by simpa using hi)] at h2
    rw[getElem?_replicate] at h2;split at h2 <;> cases h2
  have ha:vs[i]?=some v:=by
   unfold start at h2;rw[getElem?_append_left (by simpa using hi),getElem?_map] at h2
   cases e:vs[i]? with
   |none=>rw[e] at h2;cases h2
   |some a=>rw[e] at h2;cases h2;rfl
  obtain⟨u,hu,rv⟩:=r.get ha;have hp:ps[i]?=some y:=by
   rw[←S.pre,List.getElem?_take_of_lt (by omega)];exact h1
  have ndP:ps.Nodup:=by rw[←S.pre];exact S.nd.sublist (List.take_sublist _ _)
  refine⟨u,rv,?_⟩;rcases S.par y (mem_of_getElem? hp) with k|k
  ·exact .inl ⟨k,qp ndP hp hu k⟩
  ·obtain⟨c,e⟩:=kM (n:=s.heap.objs.size+1) k;refine .inr ⟨.inl k,c,e,?_⟩;have q:=x.cell y c e;rw[qt ndP hp hu (by show scope.names.lookup y≠_;rw[k];decide)] at q
   exact q
 ·exact e0.hok.fresh (le_of_lt (x.above y c (PySem.mem_of_lookup h)))
 ·unfold start;show _=N.length;rw[length_append,length_map,length_replicate];omega
theorem BU{CX:ym}{P:Program}{w:World}{K:Frag}{mg:Str->Option Value}{base:Heap}{k:Nat}{f:Addr}{name qual:Str}{params:Arguments}{body:List Stmt}{scope:Scope}{dV kV doc pm cdv ct oc:Value}{an od:Option Addr}
  {osl:Array (Option Value)} {N ps:List Str} {sp:Sp} (lk:K.lookup f=some ⟨oc,od,.func (fnOf name qual params body scope dV kV doc pm an cdv ct),osl⟩) (hcd:codeIn K cdv qual=true) (S:ax N ps scope)
  (len:∀vs H Q E,sp vs H Q E->vs.length=ps.length)
  (hbody:∀(A:Around)(outer:List Env)(s:Shared)(H:Hp)(vs:List V)(Q:VK)(E:XK),ba k (A.deeper (envOfC qual scope s.heap.objs.size f cdv))->sp vs H Q E->
   ∃t,ip (iB CX P w K mg base N qual scope f cdv A outer s H E) body t/\t {nx:=λ_ H'=>Q .non H',rt:=Q} (start N vs) H):
  bV P w K mg base CX (k+1) f (fnOf name qual params body scope dV kV doc pm an cdv ct) ps sp:=by
 refine⟨len,λA outer s H args us vs Q E hr e0 hb r hsp=>?_⟩;have hl:=len _ _ _ _ hsp;have KX:K.In s.heap:=e0.mod.kin.keeps λb o e=>(e0.bs b o e).1;have lim:s.heap.NoLimit:=e0.mod.nolimit.keeps λb o e=>(e0.bs b o e).1;have hkind:∀y∈ps.zip us,scope.names.lookup y.1=some .local\/(scope.names.lookup y.1=some .cell/\((cellsFrom (s.heap.objs.size+1) scope.names []).lookup y.1).isSome=true):=λ⟨n,v⟩ hy=>by
  rcases S.par n (of_mem_zip hy).1 with q|q
  ·exact .inl q
  ·exact .inr ⟨q,cellsFrom_some _ _ _ (.inl q)⟩
 refine codeAny_call_function hr.depth (KX _ _ lk) rfl S.co S.gen rfl (PySem.W.codeRec_of KX hcd) (hb _ _ _ _ ?_);refine wpAny_newFunctionEnv_cells S.kind hkind λenv he s1 x=>?_;subst he;refine⟨lim.keeps x.toInCall.keep,codeAny_func ?_⟩;obtain⟨t,ht,hq⟩:=hbody A outer s H vs Q E (hr.deeper _) hsp;have I:ay (iB CX P w K mg base N qual scope f cdv A outer s H E) [] (start N vs) H s1:=pW S hr.hd e0 hl r x;refine wpAny_mono (ht [] s1 (start N vs) H _ I hq) (λfl s' hs=>?_) λe s' hs=>hs;have fin:∀{σ':St}{H':Hp}{v:V}{u:Value},ay (iB CX P w K mg base N qual scope f cdv A outer s H E) [] σ' H' s'->RelV v u->Q v H'->CE outer P w H s Q u s':=
  λ{σ' H' v u} J rv q=>⟨v,H',J.os,J.bare,J.base,J.hok,rv,q⟩
 cases fl with
 |ret u=>
  obtain⟨v,σ',H',J,rv,q⟩:=hs;exact fin J rv q
 |next=>
  obtain⟨σ',H',J,q⟩:=hs;exact fin (v:=V.non) (u:=Value.none) J rfl q
 |brk=>
  obtain⟨_,_,_,q⟩:=hs;exact False.elim q
 |cont=>
  obtain⟨_,_,_,q⟩:=hs;exact False.elim q
section
variable{X:Cx}{x:Str}{p pos:Pos}{e:Expr}{es:List Expr}{t:TA}{id T:String}{r:List V->Hp->VK->Prop}
def KD(r:List V->Hp->VK->Prop)(t:TA):TE:=λσ H Q=>t σ H λvs H1=>r vs H1 Q
theorem iM(hc:cZ X (.builtin id) r)(hg:Gl X x)(hm:X.mg x=none)(hv:bootBuiltins x=some (.builtin id))(ha:PA X (e::es) t)(hn:x ≠ "__name__" := by decide)(hdb:(x == ("__debug__":Str))=false:=by decide)
  (he:starEach (e::es) X.env=(false,eval e X.env)::starEach es X.env:=by rfl) (hpl:(backTo pos (starEach es X.env)).any (·.1)=false:=by rfl):PE X (.Call (.Name x p) (e::es) [] pos) (KD r t):=by
 intro pins s σ H Q I h;refine wpAny_Call_Name_kw (iX I hg hm hv ?_ hn hdb);exact PyProof.Rows.callWith_builtin1 (bW (ha pos pins s σ H _ I h) λus s1 ⟨vs,H1,I1,r1,q1⟩=>hc pins s1 σ H1 vs us Q I1 r1 q1) he hpl
theorem yX(hc:cZ X (.type T) r)(hg:Gl X x)(hm:X.mg x=none)(hv:bootBuiltins x=some (.type T))(ha:PA X (e::es) t)(hn:x ≠ "__name__" := by decide)(hdb:(x == ("__debug__":Str))=false:=by decide)
  (he:starEach (e::es) X.env=(false,eval e X.env)::starEach es X.env:=by rfl) (hpl:(backTo pos (starEach es X.env)).any (·.1)=false:=by rfl):PE X (.Call (.Name x p) (e::es) [] pos) (KD r t):=by
 intro pins s σ H Q I h;refine wpAny_Call_Name_kw (iX I hg hm hv ?_ hn hdb);exact PyProof.Rows.callWith_type1 (bW (ha pos pins s σ H _ I h) λus s1 ⟨vs,H1,I1,r1,q1⟩=>hc pins s1 σ H1 vs us Q I1 r1 q1) he hpl
end
end L2
namespace HT
open PySem PyProof.Rows
section
open PySem.SeqAt
open PySem.AutoSeq1 (wpAny_loadPart')
open PySem.MeetsSeq PySem.MeetsSeq2 PySem.MeetsSeq3
end
section
variable{prog:Program}{w:World}{A:Around}{E:Value->Shared->Prop}{s:Shared}
theorem cat_tup{t b:Addr}{vs ws:List Value}{Q:Value->Shared->Prop}(ht:IsTup s.heap t vs.toArray)(hb:IsTup s.heap b ws.toArray)(hv:vs≠[])
  (h1:ws=[]->Q (.ref t) s) (h2:ws≠[]->Q (.ref s.heap.objs.size) {s with heap:=s.heap.push {cls:=.type "tuple",data:=.seq (vs++ws).toArray}})
  (hsz:vs.length+ws.length<=sizeLine):wpAny (model prog w) A (binaryOp .Add (.ref t) (.ref b)) Q E s:=by
 obtain⟨⟨cls,dd,data,sl⟩,ho,hc,n,hd⟩:=id ht;obtain⟨⟨cls2,dd2,data2,sl2⟩,ho2,hc2,n2,hd2⟩:=id hb;simp only at hc hd hc2 hd2;subst hc hd hc2 hd2;have e:vs.toArray++ws.toArray=(vs++ws).toArray:=by simp
 by_cases hw:ws=[]
 ·exact concat_meets ⟨_,ho,rfl⟩ ⟨_,ho2,rfl⟩ noFill_tuple_add seq_tuple_add PySem.F.slot_tuple_add PySem.F.entry_tuple_add (PySem.F.args_tuple_add_2 _ _)
   (tuple_addW1 t b vs.toArray ws.toArray n n2 dd dd2 sl sl2 (by simpa using hv) (by simp[hw])) ⟨ho,ho2,h1 hw⟩
 ·refine concat_meets ⟨_,ho,rfl⟩ ⟨_,ho2,rfl⟩ noFill_tuple_add seq_tuple_add PySem.F.slot_tuple_add PySem.F.entry_tuple_add (PySem.F.args_tuple_add_2 _ _)
   (tuple_addW2 t b vs.toArray ws.toArray n n2 dd dd2 sl sl2 (by simpa using hv) (by simpa using hw) (by rw[size_toArray,size_toArray];exact hsz)) ⟨ho,ho2,?_⟩
  rw[e];exact h2 hw
noncomputable def sIx(n d:Nat):Option Int->Nat
 |none=>d
 |some v=>if v<0 then(v+(n:Int)).toNat else min v.toNat n
theorem FT(n d:Nat)(hd:d<=n)(o:Option Int):sIx n d o<=n:=by
 cases o with
 |none=>exact hd
 |some v=>
  show(if v<0 then(v+(n:Int)).toNat else min v.toNat n)<=n;by_cases hv:v<0
  ·rw[if_pos hv];omega
  ·rw[if_neg hv];exact Nat.min_le_right _ _
theorem y8(v:Int)(n d:Nat):(if v<0 then max (v+(n:Int)) 0 else min v (n:Int))=((sIx n d (some v):Nat):Int):=by
 show(if v<0 then max (v+(n:Int)) 0 else min v (n:Int))=(((if v<0 then(v+(n:Int)).toNat else min v.toNat n):Nat):Int);by_cases hv:v<0
 ·simp only[if_pos hv];omega
 ·simp only[if_neg hv];omega
theorem xg(lo hi:Option Int)(n:Nat):Builtin.Slice.sliceAdjust lo hi 1 (n:Int)=(((sIx n 0 lo:Nat):Int),((sIx n n hi:Nat):Int)):=by
 have h1:¬((1:Int)<0):=by omega
 unfold Builtin.Slice.sliceAdjust;simp only[h1,if_false];refine Prod.ext ?_ ?_
 ·cases lo with
  |none=>rfl
  |some v=>exact y8 v n 0
 ·cases hi with
  |none=>rfl
  |some v=>exact y8 v n n
theorem vY(i j:Nat):Builtin.Slice.slicePlaces (i:Int) (j:Int) 1=j - i:=by
 unfold Builtin.Slice.slicePlaces;have h1:(1:Int) > 0:=by omega
 simp only[h1,if_true,Int.ediv_one];split <;> omega
theorem mT{v:Value}{o:Option Int}{Q:Option Int->Shared->Prop}(p:IsPart v o)(h:Q o s):wpAny (model prog w) A (Builtin.Slice.slicePartIndex v) Q E s:=by
 cases p with
 |none=>exact slicePart_none h
 |int i t=>exact slicePart_int h
theorem kT{sl:Addr}{vl vu:Value}{lo hi:Option Int}{n:Nat}{Q:Int×Int×Nat->Shared->Prop}(hs:s.heap.IsSliceOf sl vl vu .none)(pl:IsPart vl lo)(pu:IsPart vu hi)
  (h:Q (((sIx n 0 lo:Nat):Int),1,sIx n n hi - sIx n 0 lo) s):wpAny (model prog w) A (Builtin.Slice.sliceApplied (.ref sl) (pure (n:Int))) Q E s:=by
 obtain⟨os,hos,hcs,hds⟩:=id hs;unfold Builtin.Slice.sliceApplied Builtin.Slice.sliceFields;refine wpAny_bind (wpAny_bind (wpAny_field hos hds (x:=vl) rfl (wpAny_bind (wpAny_field hos hds (x:=vu) rfl (wpAny_bind (wpAny_field hos hds (x:=.none) rfl (wpAny_pure ?_)))))));refine wpAny_bind (slicePart_none ?_);show wpAny _ _ (if((1:Int) == 0)=true then _ else _) _ _ s;rw[if_neg (by decide)]
 refine wpAny_bind (mT pl (wpAny_bind (mT pu (wpAny_bind (wpAny_pure ?_)))));show wpAny _ _ (match Builtin.Slice.sliceAdjust lo hi 1 (n:Int) with|(lo,hi)=>pure (lo,(1:Int),Builtin.Slice.slicePlaces lo hi 1)) _ _ s
 rw[xg lo hi n];show wpAny _ _ (pure (((sIx n 0 lo:Nat):Int),(1:Int),Builtin.Slice.slicePlaces ((sIx n 0 lo:Nat):Int) ((sIx n n hi:Nat):Int) 1)) _ _ s;rw[vY];exact wpAny_pure h
theorem AE(xs:Array Value)(i k:Nat):((List.range k).filterMap λ(m:Nat)=>xs[((i:Int)+(m:Int) * 1).toNat]?).toArray=((xs.toList.drop i).take k).toArray:=by
 have e:(λ(m:Nat)=>xs[((i:Int)+(m:Int) * 1).toNat]?)=λm=>xs[i+m]?:=by
  funext m;have:((i:Int)+(m:Int) * 1).toNat=i+m:=by omega
  rw[this]
 rw[e];have:=pick_run xs i k;rw[List.filterMap_map] at this;have e2:((λx=>xs[x]?) ∘ λx=>i+x)=λm=>xs[i+m]?:=rfl;rw[e2] at this;rw[this]
theorem getItem_tuple_cut{t sl:Addr}{items:Array Value}{vl vu:Value}{lo hi:Option Int}{Q:Value->Shared->Prop}(ht:IsTup s.heap t items)(hs:s.heap.IsSliceOf sl vl vu .none)(pl:IsPart vl lo)(pu:IsPart vu hi)
  (hw:¬(sIx items.size 0 lo=0/\sIx items.size items.size hi=items.size))
  (h:Q (.ref s.heap.objs.size) {s with heap:=s.heap.push {cls:=.type "tuple",data:=.seq ((items.toList.drop (sIx items.size 0 lo)).take (sIx items.size items.size hi - sIx items.size 0 lo)).toArray}})
  (hsz:items.size<=sizeLine):wpAny (model prog w) A (getItem (.ref t) (.ref sl)) Q E s:=by
 have htake:sizeOk (.seq ((items.toList.drop (sIx items.size 0 lo)).take (sIx items.size items.size hi - sIx items.size 0 lo)).toArray):=by
  show((items.toList.drop (sIx items.size 0 lo)).take (sIx items.size items.size hi - sIx items.size 0 lo)).toArray.size<=sizeLine;rw[size_toArray,length_take,length_drop,length_toList];omega
 have hj:sIx items.size items.size hi<=items.size:=FT _ _ (le_refl _) hi;obtain⟨os,hos,hcs,hds⟩:=id hs;have hTs:s.TypeIs (.ref sl) "slice" := ⟨os,hos,hcs⟩;unfold getItem
 try with_reducible refine wpAny_holding ?_
 first|refine wpAny_bind (wpAny_pure ?_)|skip
 refine wpAny_bind (wpAny_sequenceKey ht.typeIs (by decide) ?_)
 refine wpAny_bind (wpAny_callSpecial?_slot (name:=Str.ofString "__getitem__") ht.typeIs PyProof.Rows.slot_tuple_getitem
  (wpAny_call_entry PyProof.Rows.slot_tuple_getitem ht.typeIs entry_tuple_getitem ?_ (args_tuple_getitem _ _)))
 show wpAny _ _ (Builtin.Tuple.tupleItemsOf (.ref t) >>= _) _ _ s;refine wpAny_bind (tupleItemsOf_ ht ?_);refine wpAny_bind (wpAny_typeOf hTs ?_);rw[if_pos (by decide)]
 refine wpAny_bind (kT hs pl pu ?_);have hno:¬((((sIx items.size 0 lo:Nat):Int) == 0 && (1:Int) == 1 && (sIx items.size items.size hi - sIx items.size 0 lo) == items.size)=true):=by
  intro q;rw[Bool.and_eq_true,Bool.and_eq_true] at q;have q1:((sIx items.size 0 lo:Nat):Int)=0:=eq_of_beq q.1.1;have q2:sIx items.size items.size hi - sIx items.size 0 lo=items.size:=eq_of_beq q.2;exact hw ⟨by omega,by omega⟩
 show wpAny _ _ (if(((sIx items.size 0 lo:Nat):Int) == 0 && (1:Int) == 1 && (sIx items.size items.size hi - sIx items.size 0 lo) == items.size)=true then _ else _) _ _ s;rw[if_neg hno,AE]
 first
  |exact wpAny_bind (m:=Builtin.Tuple.tupleExact _) (wpAny_newObj_type (wpAny_pure ⟨_,rfl,wpAny_pure h⟩) htake)
  |exact wpAny_bind (m:=Builtin.Tuple.tupleExact _) (wpAny_newObj_type (wpAny_bind (wpAny_pure (wpAny_pure ⟨_,rfl,wpAny_pure h⟩))) htake)
  |exact wpAny_bind (wpAny_bind (m:=Builtin.Tuple.tupleExact _) (wpAny_newObj_type (wpAny_pure (wpAny_pure ⟨_,rfl,wpAny_pure h⟩)) htake))
  |exact wpAny_bind (wpAny_bind (m:=Builtin.Tuple.tupleExact _) (wpAny_newObj_type (wpAny_pure ⟨_,rfl,wpAny_pure h⟩) htake))
end
end HT
namespace L2
open PySem PySem.Spec PyProof.Rows
abbrev TO:=St->Hp->(Option Int->Hp->Prop)->Prop
def PO(X:Cx)(e:Option Expr)(t:TO):Prop:=
 ∀(pins:List (Addr×Obj))(s:Shared)(σ:St)(H:Hp)(Q:Option Int->Hp->Prop),ay X pins σ H s->t σ H Q->
  wpAny (model X.prog X.w) X.A (evalPart e X.env) (λu s'=>∃o H',ay X pins σ H' s'/\IsPart u o/\Q o H') X.xe s
def xv:TO:=λ_ H Q=>Q none H
def F9(t:TE):TO:=λσ H Q=>t σ H λx H1=>∃i,x=.int i/\Q (some i) H1
section
variable{X:Cx}{e:Expr}{te:TE}{lo hi:Option Expr}{tl th:TO}{pos p2:Pos}
theorem Dr:PO X none xv:=by
 intro pins s σ H Q I h;rw[evalPart_none];exact wpAny_pure ⟨none,H,I,.none,h⟩
theorem Dq(h:PE X e te):PO X (some e) (F9 te):=by
 intro pins s σ H Q I hw;rw[evalPart_some];refine bW (h pins s σ H _ I hw) λu s1 ⟨x,H1,I1,r1,q1⟩=>?_;obtain⟨i,rfl,q⟩:=q1;obtain⟨t,rfl⟩:=r1;exact⟨some i,H1,I1,.int i t,q⟩
def FD(X:Cx)(r:V->Option Int->Option Int->Hp->VK->Prop):Prop:=
 ∀(pins:List (Addr×Obj))(s:Shared)(σ:St)(H:Hp)(x:V)(v vl vu:Value)(lo hi:Option Int)(sl:Addr)(Q:VK),ay X pins σ H s->RelV x v->s.heap.IsSliceOf sl vl vu .none->IsPart vl lo->IsPart vu hi->r x lo hi H Q->
  ∃T id,typeLookup (.type T) "__getitem__" = pure (some (.builtin id))/\s.TypeIs v T/\wpAny (model X.prog X.w) X.A (getItem v (.ref sl)) (EP X pins σ Q) X.xe s
theorem FD.or{r r':V->Option Int->Option Int->Hp->VK->Prop}(h:FD X r)(h':FD X r'):FD X (λx lo hi H Q=>r x lo hi H Q\/r' x lo hi H Q):=by
 intro pins s σ H x v vl vu lo hi sl Q I rx hs pl pu q;rcases q with q|q
 ·exact h pins s σ H x v vl vu lo hi sl Q I rx hs pl pu q
 ·exact h' pins s σ H x v vl vu lo hi sl Q I rx hs pl pu q
def KN(r:V->Option Int->Option Int->Hp->VK->Prop)(te:TE)(tl th:TO):TE:=λσ H Q=>te σ H λx H1=>tl σ H1 λl H2=>th σ H2 λu H3=>r x l u H3 Q
theorem AJ{r:V->Option Int->Option Int->Hp->VK->Prop}(hr:FD X r)(he:PE X e te)(hl:PO X lo tl)(hu:PO X hi th):PE X (.Subscript e (.Slice lo hi none p2) pos) (KN r te tl th):=by
 intro pins s σ H Q I h;refine Subscript_ (bW (he pins s σ H _ I h) λv s1 ⟨x,H1,I1,r1,q1⟩=>?_);refine wpAny_Slice (bW (hl pins s1 σ H1 _ I1 q1) λvl s2 ⟨l,H2,I2,pl,q2⟩=>bW (hu pins s2 σ H2 _ I2 q2) λvu s3 ⟨u,H3,I3,pu,q3⟩=>?_);rw[evalPart_none];refine wpAny_pure ?_;have I4:ay X pins σ H3 {s3 with heap:=s3.heap.push {cls:=.type "slice",data:=.fields #[vl,vu,.none]}}:=I3.kept (t':=s3.toks) λb ob q=>get?_push_of_some _ q;obtain⟨T,id,hT,ht,hg⟩:=hr pins {s3 with heap:=s3.heap.push {cls:=.type "slice",data:=.fields #[vl,vu,.none]}} σ H3 x v vl vu l u s3.heap.objs.size Q I4 r1 (Heap.IsSliceOf.new ..) pl pu q3;show wpAny (model X.prog X.w) X.A (subscriptTail e (.Slice lo hi none p2) v (.ref s3.heap.objs.size)) (EP X pins σ Q) X.xe {s3 with heap:=s3.heap.push {cls:=.type "slice",data:=.fields #[vl,vu,.none]}};exact tail_any (ops:=[.ref s3.heap.objs.size,v]) ht hT hg (by with_unfolding_all rfl)
def uT(xs:List V)(lo hi:Option Int):List V:=(xs.drop (HT.sIx xs.length 0 lo)).take (HT.sIx xs.length xs.length hi - HT.sIx xs.length 0 lo)
theorem lV(xs:List V)(lo hi:Option Int):(uT xs lo hi).length<=xs.length:=by
 unfold uT;rw[length_take,length_drop];omega
def K0(K:Frag):V->Option Int->Option Int->Hp->VK->Prop:=λx lo hi H Q=>∃a xs,x=.ref a/\jP K H a xs/\
 ¬(HT.sIx xs.length 0 lo=0/\HT.sIx xs.length xs.length hi=xs.length)/\∀p,H p=none->Q (.ref p) (aS H p (.tup (uT xs lo hi)))
theorem FQ:FD X (K0 X.K):=by
 intro pins s σ H x v vl vu lo hi sl Q I rx hs pl pu h;obtain⟨a,xs,rfl,hx,hw,q⟩:=h;cases rx;obtain⟨its,r,ht,hz⟩:=I.tuple hx;have hlen:its.toArray.size=xs.length:=by rw[size_toArray];exact r.length.symm
 refine⟨"tuple",_,PyProof.Rows.slot_tuple_getitem.lookup,ht.typeIs,?_⟩;refine HT.getItem_tuple_cut ht hs pl pu (by rw[hlen];exact hw) ?_ (by rw[hlen];exact hz)
 rw[hlen];refine⟨.ref s.heap.objs.size,_,I.laid (t':=s.toks) (o:=.tup (uT xs lo hi)) (λb ob q=>get?_push_of_some _ q) (le_refl _) ?_,rfl,q _ (I.hok.fresh (le_refl _))⟩;exact⟨le_trans (lV xs lo hi) hz,_,(r.drop (HT.sIx xs.length 0 lo)).take (HT.sIx xs.length xs.length hi - HT.sIx xs.length 0 lo),IsTup.new _ _⟩
def Ij(K:Frag):R2:=λx y H Q=>∃a b xs ys,x=.ref a/\y=.ref b/\jP K H a xs/\jP K H b ys/\xs≠[]/\xs.length+ys.length<=sizeLine/\
 (ys=[]->Q (.ref a) H)/\(ys≠[]->∀p,H p=none->Q (.ref p) (aS H p (.tup (xs++ys))))
theorem Vals.nil_iff{xs:List V}{us:List Value}(r:Vals xs us):us=[]↔xs=[]:=by
 cases r with
 |_=>simp
theorem DQ:ft X (binaryOp .Add) (Ij X.K):=by
 intro pins s σ H x y v u Q I rx ry h;obtain⟨a,b,xs,ys,rfl,rfl,ha,hb,hx,hz,q1,q2⟩:=h;cases rx;cases ry;obtain⟨its,r1,p1,_⟩:=I.tuple ha;obtain⟨its2,r2,p2,_⟩:=I.tuple hb;refine HT.cat_tup p1 p2 (λz=>hx (r1.nil_iff.mp z)) (λz=>⟨.ref a,H,I,rfl,q1 (r2.nil_iff.mp z)⟩) (λz=>?_) (by rw[←r1.length,←r2.length];exact hz)
 refine⟨.ref s.heap.objs.size,_,I.laid (t':=s.toks) (o:=.tup (xs++ys)) (λb ob q=>get?_push_of_some _ q) (le_refl _) ?_,rfl,q2 (λw=>z (r2.nil_iff.mpr w)) _ (I.hok.fresh (le_refl _))⟩;exact⟨by rw[length_append];exact hz,_,r1.append r2,IsTup.new _ _⟩
end
def IU(n:Nat)(i:Int):Option Nat:=if 0<=i then(if i<n then some i.toNat else none) else if -(n:Int)<=i then some (i+n).toNat else none
def Hk{α:Type}(xs:List α)(i:Int):Option α:=(IU xs.length i).bind λj=>xs[j]?
theorem Ed{n:Nat}{i:Int}{j:Nat}(h:IU n i=some j):seqIndex? i n=some j/\j<n/\-(n:Int)<=i/\i<n:=by
 unfold IU at h;by_cases h0:0<=i
 ·rw[if_pos h0] at h;by_cases h1:i<n
  ·rw[if_pos h1] at h;have e:i.toNat=j:=Option.some.inj h;exact⟨by rw[seqIndex_of h0 h1,e],by omega,by omega,h1⟩
  ·rw[if_neg h1] at h;cases h
 ·rw[if_neg h0] at h;by_cases h1:-(n:Int)<=i
  ·rw[if_pos h1] at h;have e:(i+n).toNat=j:=Option.some.inj h;exact⟨by rw[seqIndex_neg (by omega) h1,e],by omega,h1,by omega⟩
  ·rw[if_neg h1] at h;cases h
theorem sr{α:Type}{xs:List α}{i:Int}{v:α}(h:Hk xs i=some v):∃j,seqIndex? i xs.length=some j/\xs[j]?=some v/\j<xs.length/\-(xs.length:Int)<=i/\i<xs.length:=by
 unfold Hk at h;cases e:IU xs.length i with
 |none=>rw[e] at h;cases h
 |some j=>
  rw[e] at h;obtain⟨h1,h2,h3,h4⟩:=Ed e;exact⟨j,h1,h,h2,h3,h4⟩
def yj(b:Expr):Prop:=∀o i,subscripted b false o i=operate [o,i] (getItem o i)
def CK(X:Cx)(r:R2):Prop:=
 ∀(value slice:Expr)(pins:List (Addr×Obj))(s:Shared)(σ:St)(H:Hp)(x y:V)(v u:Value)(Q:VK),ay X pins σ H s->RelV x v->RelV y u->r x y H Q->
  subscripted slice false v u=operate [v,u] (getItem v u)->wpAny (model X.prog X.w) X.A (subscriptTail value slice v u) (EP X pins σ Q) X.xe s
def HK(X:Cx)(id:String)(r:V->List V->Hp->VK->Prop):Prop:=
 ∀(pins:List (Addr×Obj))(s:Shared)(σ:St)(H:Hp)(x:V)(xs:List V)(v:Value)(us:List Value)(Q:VK),ay X pins σ H s->RelV x v->Vals xs us->r x xs H Q->
  wpAny (model X.prog X.w) X.A (call (.builtin id) (v::us)) (EP X pins σ Q) X.xe s
section
variable{X:Cx}{a b:Expr}{ta tb:TE}{pos:Pos}
theorem CK.or{r r':R2}(h:CK X r)(h':CK X r'):CK X (λx y H Q=>r x y H Q\/r' x y H Q):=by
 intro value slice pins s σ H x y v u Q I rx ry q hs;rcases q with q|q
 ·exact h value slice pins s σ H x y v u Q I rx ry q hs
 ·exact h' value slice pins s σ H x y v u Q I rx ry q hs
theorem HK.or{id:String}{r r':V->List V->Hp->VK->Prop}(h:HK X id r)(h':HK X id r'):HK X id (λx xs H Q=>r x xs H Q\/r' x xs H Q):=by
 intro pins s σ H x xs v us Q I rx rs q;rcases q with q|q
 ·exact h pins s σ H x xs v us Q I rx rs q
 ·exact h' pins s σ H x xs v us Q I rx rs q
theorem Ip{r:R2}(hr:CK X r)(ha:PE X a ta)(hb:PE X b tb)(hs:yj b):PE X (.Subscript a b pos) (HR r ta tb):=by
 intro pins s σ H Q I h;exact Subscript_ (Hi ha hb I h λv u s2 x y H2 I2 rx ry q=>hr a b pins s2 σ H2 x y v u Q I2 rx ry q (hs _ _))
def K5(K:Frag):R2:=λx y H Q=>∃p xs i v,x=.ref p/\y=.int i/\jE K H p xs/\Hk xs i=some v/\Q v H
def K3(K:Frag):R2:=λx y H Q=>∃p xs i v,x=.ref p/\y=.int i/\jP K H p xs/\Hk xs i=some v/\Q v H
def K4:R2:=λx y H Q=>∃z i c,x=.str z/\y=.int i/\z.length<=sizeLine/\Hk z.cps.toList i=some c/\Q (.str ⟨#[c]⟩) H
theorem Ec:CK X (K5 X.K):=by
 intro value slice pins s σ H x y v u Q I rx ry h hs;obtain⟨p,xs,i,z,rfl,rfl,hq,he,q⟩:=h;cases rx;obtain⟨t,rfl⟩:=ry;obtain⟨its,r,pl,hz⟩:=I.list hq;obtain⟨j,h1,h2,h3,h4,h5⟩:=sr he;obtain⟨w,ew,rw'⟩:=r.get h2;have hl:=r.length;have hn:=nD;have fin:EP X pins σ Q w s:=⟨z,H,I,rw',q⟩;by_cases h0:0<=i
 ·have hj:i.toNat=j:=by
   rw[seqIndex_of h0 h5] at h1;exact Option.some.inj h1
  exact item_listR pl.isList h0 (by omega) (by rw[hj];simpa using ew) fin hs
 ·have hj:(i+(its.toArray.size:Int)).toNat=j:=by
   rw[seqIndex_neg (by omega) h4] at h1
   rw[size_toArray,←hl];exact Option.some.inj h1
  exact subscriptTail_builtinR (x:=w) pl.isList.typeIs slot_list_getitem.lookup
   (wpAny_getItem_list_neg (Q:=λr s'=>r=w/\EP X pins σ Q r s') pl.isList (by omega) (by rw[size_toArray] <;> omega) (by omega) (by rw[hj];simpa using ew) ⟨rfl,fin⟩) hs
theorem ix_tup:CK X (K3 X.K):=by
 intro value slice pins s σ H x y v u Q I rx ry h hs;obtain⟨p,xs,i,z,rfl,rfl,hq,he,q⟩:=h;cases rx;obtain⟨t,rfl⟩:=ry;obtain⟨its,r,pl,hz⟩:=I.tuple hq;obtain⟨j,h1,h2,h3,h4,h5⟩:=sr he;obtain⟨w,ew,rw'⟩:=r.get h2;have hl:=r.length;have hn:=nD;have fin:EP X pins σ Q w s:=⟨z,H,I,rw',q⟩;exact subscriptTail_builtinR (x:=w) pl.typeIs slot_tuple_getitem.lookup
  (getItem_tuple (j:=j) (Q:=λr s'=>r=w/\EP X pins σ Q r s') pl (by omega) (by omega) (by rw[size_toArray,←hl];exact h1) (by simpa using ew) ⟨rfl,fin⟩) hs
theorem GK:CK X K4:=by
 intro value slice pins s σ H x y v u Q I rx ry h hs;obtain⟨z,i,c,rfl,rfl,hz,he,q⟩:=h;obtain⟨t,rfl⟩:=rx;obtain⟨t',rfl⟩:=ry;obtain⟨j,h1,h2,h3,h4,h5⟩:=sr he;have hl:z.cps.toList.length=z.length:=by simp[Str.length]
 rw[hl] at h1 h4 h5;have hn:=nD;exact tail_any (typeIs_str s z t) slot_str_getitem.lookup (getItem_str (c:=c) (by
  have e1:decide (i < -(2 ^ 63:Int))=false:=decide_eq_false (by omega)
  have e2:decide (i ≥ 2 ^ 63)=false:=decide_eq_false (by omega)
  rw[e1,e2,Bool.or_false]) (by rw[h1];simpa using h2) ⟨.str ⟨#[c]⟩,H,I.tok _,⟨_,rfl⟩,q⟩) hs
theorem ay.lst{pins:List (Addr×Obj)}{σ:St}{H:Hp}{s:Shared}{p:Addr}{xs:List V}(I:ay X pins σ H s)(h:H p=some (.lst xs)):
  ∃(its:List Value)(n:Nat),Vals xs its/\s.heap.get? p=some {cls:=.type "list",data:=.seq its.toArray n}/\xs.length<=sizeLine:=by
 obtain⟨z,its,n,r,e⟩:=I.hok p _ h;exact⟨its,n,r,e,z⟩
theorem qK(lo hi:Option Int)(n:Nat):(sliceBounds lo hi none n).1=((HT.sIx n 0 lo:Nat):Int)/\(sliceBounds lo hi none n).2.1=((HT.sIx n n hi:Nat):Int)/\(sliceBounds lo hi none n).2.2=1:=by
 refine⟨?_,?_,rfl⟩
 ·cases lo with
  |none=>simp[sliceBounds,HT.sIx]
  |some i=>
   simp only[sliceBounds,HT.sIx,Option.getD_none,show(1:Int) > 0 by decide,if_true]
   by_cases h:i<0
   ·simp only[h,if_true] <;> omega
   ·simp only[h,if_false] <;> omega
 ·cases hi with
  |none=>simp[sliceBounds,HT.sIx]
  |some i=>
   simp only[sliceBounds,HT.sIx,Option.getD_none,show(1:Int) > 0 by decide,if_true]
   by_cases h:i<0
   ·simp only[h,if_true] <;> omega
   ·simp only[h,if_false] <;> omega
theorem oQ(its:List Value)(lo hi:Option Int):slicePick its.toArray lo hi none=((its.drop (HT.sIx its.length 0 lo)).take (HT.sIx its.length its.length hi - HT.sIx its.length 0 lo)).toArray:=by
 obtain⟨h1,h2,h3⟩:=qK lo hi its.toArray.size;unfold slicePick;rw[h1,h2,h3];simp only[sliceRange_one,pick_run,size_toArray] <;> rfl
def K1(K:Frag):V->Option Int->Option Int->Hp->VK->Prop:=λx lo hi H Q=>∃a xs,x=.ref a/\jE K H a xs/\∀p,H p=none->Q (.ref p) (aS H p (.lst (uT xs lo hi)))
theorem D8:FD X (K1 X.K):=by
 intro pins s σ H x v vl vu lo hi sl Q I rx hs pl pu h;obtain⟨a,xs,rfl,hx,q⟩:=h;cases rx;obtain⟨its,r,ht,hz⟩:=I.list hx;have hlen:=r.length;refine⟨"list",_,slot_list_getitem.lookup,ht.isList.typeIs,?_⟩;refine wpAny_getItem_list_slice ht.isList hs pl pu .none (by simp) ?_ (by rw[size_toArray] <;> omega)
 rw[oQ,←hlen];refine⟨.ref s.heap.objs.size,_,I.laid (t':=s.toks) (o:=.lst (uT xs lo hi)) (λb ob q=>get?_push_of_some _ q) (le_refl _) ?_,rfl,q _ (I.hok.fresh (le_refl _))⟩;exact⟨le_trans (lV xs lo hi) hz,_,0,(r.drop (HT.sIx xs.length 0 lo)).take (HT.sIx xs.length xs.length hi - HT.sIx xs.length 0 lo),get?_push_size _ rfl⟩
def jJ:V->Bool
 |.non=>true
 |.bl _=>true
 |.int _=>true
 |.str _=>true
 |_=>false
def CH:V->V->Bool
 |.non,.non=>true
 |.bl a,.bl b=>a == b
 |.bl a,.int b=>(if a then 1 else 0) == b
 |.int a,.bl b=>a == (if b then 1 else 0)
 |.int a,.int b=>a == b
 |.str a,.str b=>a == b
 |_,_=>false
theorem GT{A:Around}{s:Shared}{y x:V}{u v:Value}(ry:RelV y u)(rx:RelV x v)(fy:jJ y=true)(fx:jJ x=true):SeqAt.EqAt A s u v (CH y x):=by
 cases y with
 |non=>
  cases ry;cases x with
  |non=>cases rx;exact SeqAt.EqAt.same _
  |bl b=>cases rx;exact SeqAt.EqAt.none_bool b
  |int b=>obtain⟨t,rfl⟩:=rx;exact SeqAt.EqAt.none_int b t
  |str b=>obtain⟨t,rfl⟩:=rx;exact SeqAt.EqAt.none_str b t
  |_=>exact absurd (show false=true from fx) Bool.false_ne_true
 |bl a=>
  cases ry;cases x with
  |non=>cases rx;exact SeqAt.EqAt.bool_none a
  |bl b=>cases rx;exact SeqAt.EqAt.bool_bool a b
  |int b=>obtain⟨t,rfl⟩:=rx;exact SeqAt.EqAt.bool_int a b t
  |str b=>obtain⟨t,rfl⟩:=rx;exact SeqAt.EqAt.bool_str a b t
  |_=>exact absurd (show false=true from fx) Bool.false_ne_true
 |int a=>
  obtain⟨t',rfl⟩:=ry;cases x with
  |non=>cases rx;exact SeqAt.EqAt.int_none a t'
  |bl b=>cases rx;exact SeqAt.EqAt.int_bool a t' b
  |int b=>obtain⟨t,rfl⟩:=rx;exact SeqAt.EqAt.int_int a t' b t
  |str b=>obtain⟨t,rfl⟩:=rx;exact SeqAt.EqAt.int_str a t' b t
  |_=>exact absurd (show false=true from fx) Bool.false_ne_true
 |str a=>
  obtain⟨t',rfl⟩:=ry;cases x with
  |non=>cases rx;exact SeqAt.EqAt.str_none a t'
  |bl b=>cases rx;exact SeqAt.EqAt.str_bool a t' b
  |int b=>obtain⟨t,rfl⟩:=rx;exact SeqAt.EqAt.str_int a t' b t
  |str b=>obtain⟨t,rfl⟩:=rx;exact SeqAt.EqAt.str_str a t' b t
  |_=>exact absurd (show false=true from fx) Bool.false_ne_true
 |_=>exact absurd (show false=true from fy) Bool.false_ne_true
def Ep(x:V)(u:Value):Bool:=match u with
 |.none=>CH .non x
 |.bool b=>CH (.bl b) x
 |.int i _=>CH (.int i) x
 |.str z _=>CH (.str z) x
 |_=>false
theorem C9{x y:V}{u:Value}(r:RelV y u)(f:jJ y=true):Ep x u=CH y x:=by
 cases y with
 |non=>cases r;rfl
 |bl b=>cases r;rfl
 |int i=>obtain⟨t,rfl⟩:=r;rfl
 |str z=>obtain⟨t,rfl⟩:=r;rfl
 |_=>exact absurd (show false=true from f) Bool.false_ne_true
theorem sv{x:V}:∀{xs:List V}{us:List Value},Vals xs us->xs.all jJ=true->us.any (Ep x)=xs.any λy=>CH y x
 |_,_,.nil,_=>rfl
 |y::xs,u::us,.cons r t,f=>by
  rw[List.all_cons,Bool.and_eq_true] at f;rw[any_cons,any_cons,C9 r f.1,sv t f.2]
theorem nA{A:Around}{s:Shared}{x:V}{v:Value}(rx:RelV x v)(fx:jJ x=true):∀{xs:List V}{us:List Value},Vals xs us->xs.all jJ=true->∀u∈us,SeqAt.EqAt A s u v (Ep x u)
 |_,_,.nil,_=>λu hu=>by cases hu
 |y::xs,u::us,.cons r t,f=>λu' hu=>by
  rw[List.all_cons,Bool.and_eq_true] at f;rcases mem_cons.mp hu with rfl|hu
  ·rw[C9 r f.1];exact GT r rx f.1 fx
  ·exact nA rx fx t f.2 u' hu
def Jy(x:V)(xs:List V):Bool:=xs.any λy=>CH y x
def K6(K:Frag)(neg:Bool):R2:=λx y H Q=>∃p xs,y=.ref p/\(jE K H p xs\/jP K H p xs)/\jJ x=true/\xs.all jJ=true/\Q (.bl (if neg then !Jy x xs else Jy x xs)) H
theorem rh:ft X (compareOp .NotIn) (K6 X.K true):=by
 intro pins s σ H x y v u Q I rx ry h;obtain⟨p,xs,rfl,hq,fx,fs,q⟩:=h;cases ry;rcases hq with hq|hq
 ·obtain⟨its,r,pl,hz⟩:=I.list hq;refine SeqAt.notIn_listAt (Ep x) pl.isList (λw hw=>nA rx fx r fs w (by simpa using hw)) ⟨.bl _,H,I,rfl,?_⟩
  rw[show its.toArray.any (Ep x)=its.any (Ep x) by simp,sv r fs]
  exact q
 ·obtain⟨its,r,pl,hz⟩:=I.tuple hq;refine SeqAt.notIn_tupleAt (Ep x) pl (λw hw=>nA rx fx r fs w (by simpa using hw)) ⟨.bl _,H,I,rfl,?_⟩
  rw[show its.toArray.any (Ep x)=its.any (Ep x) by simp,sv r fs]
  exact q
theorem kO:cZ X (.builtin "len") (λxs H Q=>∃p ys,xs=[.ref p]/\(jE X.K H p ys\/jP X.K H p ys)/\Q (.int ys.length) H):=by
 intro pins s σ H xs us Q I r h;obtain⟨p,ys,rfl,hq,q⟩:=h;obtain⟨u,rfl,rx⟩:=lM r;cases rx;have hn:=nD;rcases hq with hq|hq
 ·obtain⟨its,r',pl,hz⟩:=I.list hq;have hlen:=r'.length;exact Calls.call_len_list pl.isList (by simp only[size_toArray] <;> omega) ⟨.int ys.length,H,I.tok _,⟨s.toks+1,by rw[size_toArray,hlen]⟩,q⟩
 ·obtain⟨its,r',pl,hz⟩:=I.tuple hq;have hlen:=r'.length;exact len_tuple pl (by simp only[size_toArray] <;> omega) ⟨.int ys.length,H,I.tok _,⟨s.toks+1,by rw[size_toArray,hlen]⟩,q⟩
theorem so:cZ X (.builtin "len") (λxs H Q=>∃z,xs=[.str z]/\z.length<=sizeLine/\Q (.int z.length) H):=by
 intro pins s σ H xs us Q I r h;obtain⟨z,rfl,hz,q⟩:=h;obtain⟨u,rfl,t,rfl⟩:=lM r;have hn:=nD;exact len_str (by omega) ⟨.int z.length,H,I.tok _,⟨_,rfl⟩,q⟩
theorem cZ.or{f:Value}{r r':List V->Hp->VK->Prop}(h:cZ X f r)(h':cZ X f r'):cZ X f (λxs H Q=>r xs H Q\/r' xs H Q):=by
 intro pins s σ H xs us Q I rs q;rcases q with q|q
 ·exact h pins s σ H xs us Q I rs q
 ·exact h' pins s σ H xs us Q I rs q
theorem jL:cZ X (.type "tuple") (λxs H Q=>∃p ys,xs=[.ref p]/\((jE X.K H p ys/\∀l,H l=none->Q (.ref l) (aS H l (.tup ys)))\/(jP X.K H p ys/\Q (.ref p) H))):=by
 intro pins s σ H xs us Q I r h;obtain⟨p,ys,rfl,h⟩:=h;obtain⟨u,rfl,rx⟩:=lM r;cases rx;rcases h with⟨hq,q⟩|⟨hq,q⟩
 ·obtain⟨its,r',pl,hz⟩:=I.list hq;have hlen:=r'.length;refine call_tuple_list pl.isList (λh' kp=>?_) (by simp only[size_toArray] <;> omega)
  have I1:ay X pins σ H {s with heap:=h'}:=I.kept (t':=s.toks) kp;have I2:ay X pins σ (aS H h'.objs.size (.tup ys)) {s with heap:=h'.push {cls:=.type "tuple",data:=.seq its.toArray}}:=
   I1.laid (t':=s.toks) (λb o e=>get?_push_of_some _ e) (le_refl _) (show aY X.prog X.w _ _ _ (.tup ys) from⟨hz,its,r',IsTup.new _ _⟩)
  exact⟨.ref h'.objs.size,_,I2,rfl,q _ (I1.hok.fresh (le_refl _))⟩
 ·obtain⟨its,r',pl,hz⟩:=I.tuple hq;exact call_tuple_same pl ⟨.ref p,H,I,rfl,q⟩
def KC(K:Frag)(T:String)(x:V)(H:Hp):Prop:=match x with
 |.str _=>T = "str"
 |.int _=>T = "int"
 |.ref p=>(T = "list" /\ ∃xs,jE K H p xs)\/(T = "tuple" /\ ∃o,K.lookup p=some o/\o.cls=.type "tuple" /\ o.dict=none)\/
   (T = "dict" /\ ((∃kvs,H p=some (.dK kvs))\/∃kvs,H p=some (.dT kvs)))\/(T = "set" /\ ∃S n,H p=some (.set S n))
 |_=>False
theorem FK{pins:List (Addr×Obj)}{σ:St}{H:Hp}{s:Shared}{T:String}{x:V}{v:Value}(I:ay X pins σ H s)(r:RelV x v)(ty:KC X.K T x H):
  s.TypeIs v T/\∀a,v=.ref a->∃ob,s.heap.get? a=some ob/\ob.dict=none:=by
 cases x with
 |str z=>
  obtain⟨t,rfl⟩:=r;cases (show T = "str" from ty);exact⟨typeIs_str s z t,λ_ e=>nomatch e⟩
 |int i=>
  obtain⟨t,rfl⟩:=r;cases (show T = "int" from ty);exact⟨typeIs_int s i t,λ_ e=>nomatch e⟩
 |ref p=>
  cases r;rcases ty with⟨rfl,xs,hq⟩|⟨rfl,o,hk,hc,hd⟩|⟨rfl,hk⟩|⟨rfl,S,n,hk⟩
  ·obtain⟨its,_,pl,_⟩:=I.list hq;refine⟨pl.isList.typeIs,λa e=>?_⟩;cases e;obtain⟨o,n,e,c,hd,_⟩:=pl;exact⟨o,e,hd⟩
  ·refine⟨⟨o,I.kIn p o hk,hc⟩,λa e=>?_⟩;cases e;exact⟨o,I.kIn _ o hk,hd⟩
  ·have z:∃o,s.heap.get? p=some o/\o.ExactDict:=by
    rcases hk with⟨kvs,hk⟩|⟨kvs,hk⟩
    ·obtain⟨_,_,_,_,o,_,_,e,ex,_⟩:=I.hok p _ hk;exact⟨o,e,ex⟩
    ·obtain⟨_,_,_,_,o,_,_,e,ex,_⟩:=I.hok p _ hk;exact⟨o,e,ex⟩
   obtain⟨o,e,ex⟩:=z;refine⟨⟨o,e,ex.1⟩,λa e2=>?_⟩;cases e2;exact⟨o,e,ex.2.1⟩
  ·obtain⟨o,_,_,_,e,ex,_⟩:=I.hok p _ hk;refine⟨⟨o,e,ex.1⟩,λa e2=>?_⟩;cases e2;exact⟨o,e,ex.2.1⟩
 |_=>exact False.elim ty
def KR(K:Frag)(T:String)(r:V->List V->Hp->VK->Prop)(to:TE)(t:TA):TE:=λσ H Q=>to σ H λx H1=>KC K T x H1/\t σ H1 λxs H2=>r x xs H2 Q
variable{o e:Expr}{es:List Expr}{to:TE}{t:TA}{name:Str}{apos cpos:Pos}{T id:String}{r:V->List V->Hp->VK->Prop}
theorem Fk(pa:PlainAttrs T)(slot:Slot T name id)(hty:typeOf (.builtin id)=pure (.type "method_descriptor"))(hm:HK X id r)(ho:PE X o to)(ha:PA X (e::es) t)
  (hbase:attributeBase o name X.env (eval o X.env)=eval o X.env:=by rfl)
  (hfew:((backTo cpos (starEach (e::es) X.env)).all (λx=>!x.1) && (backToKw cpos (keywordEach [] X.env)).all (λx=>x.1.isSome)
   && decide ((e::es).length+([]:List Keyword).length+(if([]:List Keyword).isEmpty then 0 else 1)<30))=true:=by rfl)
  (hline:(apos.endLine == cpos.line)=true:=by rfl) (hs:starEach (e::es) X.env=(false,eval e X.env)::starEach es X.env:=by rfl) (hplain:(backTo cpos (starEach es X.env)).any (·.1)=false:=by rfl):
  PE X (.Call (.Attribute o name apos) (e::es) [] cpos) (KR X.K T r to t):=by
 intro pins s σ H Q I h;refine wpAny_Call_method_late hbase hfew hline rfl (bW (ho pins s σ H _ I h) λv s1 ⟨x,H1,I1,r1,ty,q1⟩=>?_);obtain⟨h1,h2⟩:=FK I1 r1 ty;refine⟨T,id,pa,slot,hty,h1,h2,?_⟩;have hA:=ha cpos pins s1 σ H1 _ I1 q1;rw[hs] at hA ⊢;refine Calls.callWith_builtin (by show(false || (backTo cpos (starEach es X.env)).any (·.1))=false;rw[hplain] <;> rfl) (Calls.evalArgs_plain ?_)
 exact bW hA λus s2 ⟨vs,H2,I2,r2,q2⟩=>hm pins s2 σ H2 x vs v us Q I2 r1 r2 q2
end
def Kt(X:Cx)(id:String)(r:V->List V->Hp->VK->Prop):Prop:=
 ∀(pins:List (Addr×Obj))(s:Shared)(σ:St)(H:Hp)(x:V)(xs:List V)(v:Value)(us:List Value)(Q:VK),ay X pins σ H s->RelV x v->Vals xs us->r x xs H Q->
  wpAny (model X.prog X.w) X.A (call (.builtin id) (v::us)) (EP X pins σ Q) X.xe s
theorem Vals.one:∀{x:V}{us:List Value},Vals [x] us->∃u,us=[u]/\RelV x u
 |_,_,.cons r .nil=>⟨_,rfl,r⟩
theorem Vals.two:∀{x y:V}{us:List Value},Vals [x,y] us->∃u v,us=[u,v]/\RelV x u/\RelV y v
 |_,_,_,.cons r (.cons q .nil)=>⟨_,_,rfl,r,q⟩
theorem Vals.zero:∀{us:List Value},Vals [] us->us=[]
 |_,.nil=>rfl
theorem Vals.reverse{xs:List V}{us:List Value}(h:Vals xs us):Vals xs.reverse us.reverse:=by
 induction h with
 |nil=>exact .nil
 |cons r t ih=>rw[reverse_cons,reverse_cons];exact Vals.append ih (.cons r .nil)
theorem Vals.rep{xs:List V}{us:List Value}(h:Vals xs us):∀k:Nat,Vals (replicate k xs).flatten (replicate k us).flatten
 |0=>.nil
 |k+1=>by
  rw[replicate_succ,replicate_succ,flatten_cons,flatten_cons];exact Vals.append h (Vals.rep h k)
theorem qe(its:List Value):∀(k:Nat)(acc:List Value),
  List.foldl (λx1 x2=>x1++x2) acc.toArray (replicate k its.toArray)=(acc++(replicate k its).flatten).toArray
 |0,acc=>by simp
 |k+1,acc=>by
  have e:acc.toArray++its.toArray=(acc++its).toArray:=by simp
  have e2:(acc++its)++(replicate k its).flatten=acc++(replicate (k+1) its).flatten:=by
   rw[replicate_succ,flatten_cons,append_assoc]
  rw[←e2,←qe its k (acc++its),←e,replicate_succ,foldl_cons]
section
variable{X:Cx}{pins:List (Addr×Obj)}{σ:St}{H:Hp}{s:Shared}{l b:Addr}{xs ys zs:List V}
theorem ay.lset{its its':List Value}{n:Nat}{f:Array Value->Array Value}{t':Nat}(I:ay X pins σ H s)(hH:H l=some (.lst xs))
  (e:s.heap.get? l=some {cls:=.type "list",data:=.seq its.toArray n}) (hf:f its.toArray=its'.toArray) (hv:Vals ys its') (hz:ys.length<=sizeLine):
  ay X pins σ (aS H l (.lst ys)) {s with heap:=s.heap.update l (Obj.mapSeq f),toks:=t'}:=by
 have q:=PySem.IsL.update e f;rw[hf] at q;refine I.write (x:=l) (e:=l) (by rw[hH];exact trivial) (.inl rfl) (λb' u hb hu=>(get?_update_other s.heap (Obj.mapSeq f) (Ne.symm hb)).trans hu) ⟨_,q⟩ ?_
 exact⟨hz,its',_,hv,q⟩
theorem ay.lnew{its:List Value}{t':Nat}(I:ay X pins σ H s)(hv:Vals ys its)(hz:ys.length<=sizeLine):
  ay X pins σ (aS H s.heap.objs.size (.lst ys)) {s with heap:=s.heap.push {cls:=.type "list",data:=.seq its.toArray},toks:=t'}:=
 I.laid (λ_ _ q=>get?_push_of_some _ q) (le_refl _) ⟨hz,its,0,hv,get?_push_size _ rfl⟩
theorem ay.fresh(I:ay X pins σ H s):H s.heap.objs.size=none:=I.hok.fresh (le_refl _)
theorem ay.lstM(I:ay X pins σ H s)(hH:H l=some (.lst xs)):xs.length<=sizeLine/\∃(its:List Value)(n:Nat),Vals xs its/\xs.length=its.length/\s.heap.get? l=some {cls:=.type "list",data:=.seq its.toArray n}:=by
 obtain⟨z,its,n,r,e⟩:=I.hok l _ hH;exact⟨z,its,n,r,r.length,e⟩
theorem nu{n:Nat}(h:n<=sizeLine):Builtin.List.listTooLong n=false:=by
 unfold Builtin.List.listTooLong;exact decide_eq_false (by omega)
end
section
variable{X:Cx}
def Dh:V->List V->Hp->VK->Prop:=λx vs H Q=>∃l xs y,x=.ref l/\vs=[y]/\H l=some (.lst xs)/\xs.length<sizeLine/\Q .non (aS H l (.lst (xs++[y])))
theorem pS:Kt X "list.append" Dh:=by
 intro pins s σ H x vs v us Q I rx rv h;obtain⟨l,xs,y,rfl,rfl,hH,hz,q⟩:=h;cases rx;obtain⟨u,rfl,ru⟩:=rv.one;obtain⟨z,its,n,r,hl,e⟩:=I.lstM hH;refine call_meets F.slot_list_append ⟨_,e,rfl⟩ F.entry_list_append (F.args_list_append_2 _ _) (PySem.list_append l its.toArray n u (by rw[size_toArray];omega)) ⟨e,?_⟩
 refine⟨.non,_,I.lset (its':=its++[u]) hH e (by simp) (r.append (.cons ru .nil)) ?_,rfl,q⟩
 rw[length_append,length_singleton];omega
def K2:R2:=λx y H Q=>∃l k xs,x=.ref l/\y=.int k/\H l=some (.lst xs)/\-(2 ^ 63)<=k/\k<2 ^ 63/\xs.length * k.toNat<=sizeLine/\
 ∀p,H p=none->Q (.ref p) (aS H p (.lst (replicate k.toNat xs).flatten))
theorem E9{α:Type}(xs:List α)(k:Nat):(replicate k xs).flatten.length=k * xs.length:=by
 induction k with
 |zero=>simp
 |succ k ih=>rw[replicate_succ,flatten_cons,length_append,ih,Nat.succ_mul,Nat.add_comm]
theorem Gk:ft X (binaryOp .Mult) K2:=by
 intro pins s σ H x y v u Q I rx ry h;obtain⟨l,k,xs,rfl,rfl,hH,h1,h2,hz,q⟩:=h;cases rx;obtain⟨t,rfl⟩:=ry;obtain⟨z,its,n,r,hl,e⟩:=I.lstM hH;have hlen:its.toArray.size * k.toNat<=sizeLine:=by rw[size_toArray,←hl];exact hz
 have hcap:¬its.toArray.size * k.toNat > (2 ^ 63 - 1) / 8:=by
  have:(sizeLine:Nat)<=(2 ^ 63 - 1) / 8:=by decide
  omega
 have hfit:¬(!Builtin.List.listFitsIndex k)=true:=by
  rw[fitsIndex_both h1 h2];exact Bool.false_ne_true
 have hlong:¬Builtin.List.listTooLong (its.toArray.size * k.toNat)=true:=by
  rw[nu hlen];exact Bool.false_ne_true
 have hnew:List.foldl (λx1 x2=>x1++x2) #[] (replicate (if its.toArray.isEmpty=true then 0 else k.toNat) its.toArray)=(replicate k.toNat its).flatten.toArray:=by
  have f0:∀m:Nat,List.foldl (λx1 x2=>x1++x2) #[] (replicate m its.toArray)=(replicate m its).flatten.toArray:=λm=>by
   have:=qe its m [];rw[nil_append] at this;exact this
  rw[f0];cases its with
  |nil=>simp
  |cons a r'=>rw[if_neg (by simp)]
 refine wpAny_binaryOp_repeat_ref (T := "list") (U := "int") (by decide) ⟨_,e,rfl⟩ (λs'=>typeIs_int s' k t) noFill_list_mul F.fills_int_mul F.slot_int_rmul repeat_list F.slot_int_index.lookup
  (call_meets F.slot_int_rmul (typeIs_int s k t) F.entry_int_rmul (F.args_int_rmul_2 _ _) (int___rmul___int_list k t l its.toArray n)
   ⟨e,rfl,⟨_,e,rfl⟩,call_meets F.slot_list_mul ⟨_,e,rfl⟩ F.entry_list_mul (F.args_list_mul_2 _ _) (AutoListH.list___mul___list_int_3 l its.toArray n k t hfit hcap hlong) ⟨e,?_⟩⟩)
 rw[hnew];exact⟨.ref _,_,I.lnew (t':=s.toks) (r.rep k.toNat) (by rw[E9,Nat.mul_comm];exact hz),rfl,q _ I.fresh⟩
end
end L2
namespace Att
open PySem PySem.W PySem.Calls PyProof.Rows
theorem mj{P:Params}{h:Heap}:∀(ns:List Int)(vs:List Value),WellAll P h vs (ns.map WData.int)->IntsAre vs ns:=by
 intro ns
 induction ns with
 |nil=>
  intro vs w;rw[map_nil] at w;cases w;exact .nil
 |cons n ns ih=>
  intro vs w;rw[map_cons] at w;cases w with
  |cons a b=>
   cases a;exact .cons _ _ (ih _ b)
theorem yH{l:OpenLaw}{n:Nat}(hn:l.most=some n){P:Params}{h:Heap}{args:List WData}{vals:List Value}
  (hpre:l.row.toRowW.claim.pre args=true) (hwl:WellAll P h vals args):
  ∃a vs ns,vals=[Value.ref a]/\args=[WData.list (ns.map WData.int)]/\h.get? a=some {cls:=.type "list",data:=.seq vs.toArray}/\IntsAre vs ns/\ns.length<=n:=by
 have hsh:WShape.hasAll [] args [.list .int]=true:=(pre_splitW hpre).1;have hc:l.pre.holds [] {args:=args}=true:=(pre_splitW hpre).2;obtain⟨d,r,rfl,h1,h2⟩:=hasAllW_cons hsh;obtain rfl:=hasAllW_nil h2;obtain⟨xs,rfl,h3⟩:=hasW_list h1;obtain⟨ns,rfl⟩:=items_int h3;have hlen:ns.length<=n:=by
  unfold OpenLaw.pre at hc;have h4:(WTm.not (.lt (.lit (.int (n:Int))) (.len (.arg 0)))).holds [] {args:=[.list (ns.map .int)]}=true:=by
   have h4:=(holds_andW hc).1;rw[hn] at h4;exact h4
  have h5:=condW_of h4 (w_not (w_lt w_lit (w_len_list (w_arg rfl))));rw[length_map] at h5;refine Nat.le_of_not_lt λq=>?_;have q':(n:Int)<((ns.length:Nat):Int):=by omega
  first
   | (rw[decide_eq_true q'] at h5;exact absurd h5 (by decide))
   | (simp at h5;omega)
 cases hwl with
 |cons w1 w2=>
  cases w2;cases w1 with
  |list ho hall=>exact⟨_,_,ns,rfl,rfl,ho,mj ns _ hall,hlen⟩
theorem yU(l:OpenLaw)(args:List WData):l.row.toRowW.claim.post args (.bool true) args=true:=
 postW_of (r:=l.row.toRowW) (X:=(true == true))
  (show WShape.has [] (.bool true) .bool=true by first|rfl|decide|simp[WShape.has,WShape.arms,WShape.armsAll])
  (show(WTm.eq .res (.lit (.bool true))).value [] {args:=args,res:=some (.bool true),after:=args}=some (.bool (true == true)) from w_eq_bool (w_res rfl) w_lit) rfl
theorem attach_call{l:OpenLaw}{n:Nat}{q:Program}{loose:List Str}{XP:(Str->Option Value)->Heap->Prop}{YP:World->Heap->Prop}{d:DefRec}
  (hn:l.most=some n) (hdf:d.params.defaults=[])
  (call:∀(w:World)(s₀ s₁:Shared)(mg mb:Str->Option Value)(fa:Addr)(o:Obj)(pm cd doc:Value)(a:Addr)(vs:List Value)(ns:List Int),
   Ground q loose [] XP w s₀ mg mb s₁.heap->YP w s₁.heap->
   s₁.heap.get? fa=some o->o.data=.func (docDef d.name d.params d.body d.scope pm cd doc)->s₁.heap.CodeRec cd d.name->mg d.name=some (.ref fa)->
   s₁.heap.get? a=some {cls:=.type "list",data:=.seq vs.toArray}->IntsAre vs ns->ns.length<=n->s₁.gens=#[]->
   codeAny (model l.prog w) callerA (.call (.ref fa) ⟨[.ref a],[]⟩) (λr s'=>r=.ok (.ret (.bool true))/\OldK s₁.heap s'.heap/\s'.os=s₁.os/\AllBare s'.gens) s₁):
  WalkO q loose XP YP l.row.toRowW d [] (λf vs=>PySem.call f vs):=by
 intro w s₀ s₁ mg mb G Y fa o pm cd doc dV kV ho hd hcd hD hmg hg args vals as hpre hlay hrd hwl hlo;obtain rfl:dV=.none:=Dflts.none hD hdf;obtain rfl:kV=.none:=Dflts.noKw hD;obtain⟨a,vs,ns,rfl,rfl,hobj,hints,hlen⟩:=yH hn hpre hwl;refine enter_call (codeAny_mono (call w s₀ s₁ mg mb fa o pm cd doc a vs ns G Y ho (fd_plain hd) hcd hmg hobj hints hlen hg) λr s' hq=>?_);obtain⟨rfl,h2,h3,h4⟩:=hq;exact⟨.inl ⟨.bool true,.bool true,[],rfl,λ_=>rfl,.bool true,yU l _,λ_=>⟨List.Pairwise.nil,λ_ hm=>(nomatch hm)⟩⟩,h2,h3,h4⟩
section
variable{prog:Program}{w:World}{A:Around}{E:Value->Shared->Prop}{s:Shared}{K:Frag}
def Ke(h:Heap)(L d:Addr):List (Addr×Obj):=(List.range h.objs.size).filterMap λa=>if a=L\/a=d then none else(h.get? a).map λo=>(a,o)
end
end Att
namespace L2
open PySem PySem.Spec PyProof.Rows
theorem kR:∀{vs:List Value}{ns:List Int},IntsAre vs ns->Vals (ns.map V.int) vs
 |_,_,.nil=>.nil
 |_,_,.cons n t h=>.cons ⟨t,rfl⟩ (kR h)
def Hv(H:Hp):Prop:=∀b,H b=none\/∃o xs,H b=some (.frz o (.lst xs))
theorem Bv{P:Program}{w:World}{K:Frag}{mg mb:Str->Option Value}{CX:ym}{k:Nat}{fa a:Addr}{fd:FuncData}{x:Str}{sp:Sp}{s₁:Shared}{vs:List Value}{ns:List Int}
  (KX:K.In s₁.heap) (hns:s₁.heap.Ns mainGlobals mg) (hb:s₁.heap.Ns builtinsNs mb) (hbb:∀x:Str,x ≠ "__name__" -> mb x=bootBuiltins x) (hlim:s₁.heap.NoLimit) (hg:s₁.gens=#[])
  (ha:s₁.heap.get? a=some {cls:=.type "list",data:=.seq vs.toArray}) (hi:IntsAre vs ns) (hl:ns.length<=sizeLine) (hr:ba k callerA)
  (F:∀base:Heap,K.In base->base.Ns mainGlobals mg->bV P w K mg base CX k fa fd [x] sp) (hbind:∀(s:Shared)(u:Value),BindsTo s fd ⟨[u],[]⟩ [(x,u)])
  (hsp:∀H:Hp,Hv H->jE K H a (ns.map V.int)->sp [.ref a] H (λv _=>v=.bl true) λ_ _ _=>False)
  (hCX:∀H e s',CX [] H s₁ (λ_ _ _=>False) e s'->False):
  codeAny (model P w) callerA (.call (.ref fa) ⟨[.ref a],[]⟩) (λr s'=>r=.ok (.ret (.bool true))/\OldK s₁.heap s'.heap/\s'.os=s₁.os/\AllBare s'.gens) s₁:=by
 have rv:=kR hi;have lenV:=hi.length;have core:∀H:Hp,Hv H->jE K H a (ns.map V.int)->jB P w H s₁.heap->(∀b,H b≠none->b=a)->(H a≠none->K.lookup a=none)->
   codeAny (model P w) callerA (.call (.ref fa) ⟨[.ref a],[]⟩) (λr s'=>r=.ok (.ret (.bool true))/\OldK s₁.heap s'.heap/\s'.os=s₁.os/\AllBare s'.gens) s₁:=by
  intro H hO hS hok hA hK;have base_of:∀{b:Addr}{o:Obj},s₁.heap.get? b=some o->H b=none->(iZ s₁.heap H).get? b=some o:=λe n=>uC e n;have noA:∀{b:Addr}{o:Obj}{es:Array DictEntry}{ep:Nat},s₁.heap.get? b=some o->o.data=.dict es ep->H b=none:=λ{b o es ep} e d=>by
   cases q:H b with
   |none=>rfl
   |some u=>
    have e':b=a:=hA b (by rw[q];simp)
    subst e';rw[ha] at e;cases e;have d':Data.seq vs.toArray _=Data.dict es ep:=d;cases d'
  have nsK:∀{b:Addr}{m:Str->Option Value},s₁.heap.Ns b m->(iZ s₁.heap H).Ns b m:=λ{b m} ⟨o,es,ep,e,d,r⟩=>⟨o,es,ep,base_of e (noA e d),d,r⟩;have hKb:K.In (iZ s₁.heap H):=λb o e=>base_of (KX b o e) (by
   cases q:H b with
   |none=>rfl
   |some u=>
    have e':b=a:=hA b (by rw[q];simp)
    subst e';rw[hK (by rw[q];simp)] at e;cases e)
  have hM:Mod K mg (iZ s₁.heap H):=⟨hKb,nsK hns,⟨mb,nsK hb,hbb⟩,let ⟨mc,h1,h2⟩:=hlim;⟨mc,nsK h1,h2⟩⟩;have e0:jf P w K mg (iZ s₁.heap H) callerA [] s₁ H:=⟨rfl,hM,λb o e=>xM e,le_of_eq (qc _ _),trivial,λb hb=>absurd (show b∈([]:List Addr) from hb) (by simp),hok,.of_eq hg⟩
  refine codeAny_mono ((F _ hKb (nsK hns)).run callerA [] s₁ H ⟨[.ref a],[]⟩ [.ref a] [.ref a] _ _ hr e0 (hbind s₁ (.ref a)) (.cons rfl .nil) (hsp H hO hS)) λr s' h=>?_;cases r with
  |error e=>exact(hCX H e s' h).elim
  |ok fl=>
   cases fl with
   |next=>exact False.elim h
   |brk=>exact False.elim h
   |cont=>exact False.elim h
   |ret u=>
    obtain⟨v,H',os,bare,un,hok',r',q⟩:=h;have q':v=.bl true:=q;subst q';obtain rfl:u=Value.bool true:=r';refine⟨rfl,OldK.of_keep λb o e=>?_,os,bare⟩;cases q:H b with
    |none=>exact un.keep b o e q (by intro z;exact absurd (show b∈([]:List Addr) from z) (by simp)) (by simp)
    |some u=>
     rcases hO b with z|⟨ob,xs,z⟩
     ·rw[q] at z;cases z
     ·have z2:=un.frzs b ob _ z;obtain⟨e1,_⟩:=hok b _ z;obtain⟨e2,_⟩:=hok' b _ z2;rw[e] at e1;cases e1;exact e2
 cases hk:K.lookup a with
 |some o=>
  have e:=KX a o hk;rw[ha] at e;cases e;refine core (λ_=>none) (λ_=>.inl rfl) (.inr ⟨_,vs.toArray,_,hk,rfl,rfl,rfl,by rw[size_toArray,lenV];exact hl,by simpa using rv⟩) (λb u z=>by have z':(none:Option HO)=some u:=z;cases z') (λb z=>absurd rfl z) λz=>absurd rfl z
 |none=>
  refine core (λb=>if b=a then some (.frz {cls:=.type "list",data:=.seq vs.toArray} (.lst (ns.map V.int))) else none) (λb=>?_) (.inl (.inr ⟨{cls:=.type "list",data:=.seq vs.toArray},if_pos rfl⟩)) (λb u z=>?_) (λb z=>?_) λ_=>hk
  ·by_cases hb:b=a
   ·exact .inr ⟨_,_,if_pos hb⟩
   ·exact .inl (if_neg hb)
  ·by_cases hb:b=a
   ·have z':=(if_pos hb).symm.trans z;cases z';subst hb;exact⟨ha,by rw[length_map];exact hl,vs,_,rv,ha⟩
   ·have z':=(if_neg hb).symm.trans z;cases z'
  ·by_cases hb:b=a
   ·exact hb
   ·exact absurd (if_neg hb) z
abbrev L7{K:Frag}{h:Heap}(_:K.In h):Frag:=K
theorem Ju{l:PySem.W.OpenLaw}{n k:Nat}{q:Program}{loose:List Str}{XP:(Str->Option Value)->Heap->Prop}{YP:World->Heap->Prop}{d:DefRec}{K:Params->Frag}{CX:World->ym}{sp:World->Sp}{x:Str}
  (hn:l.most=some n) (hn2:n<=sizeLine) (hdf:d.params.defaults=[]) (hr:ba k callerA)
  (hY:∀(w:World)(h:Heap),YP w h->(K w.params).In h)
  (F:∀(w:World)(mg:Str->Option Value)(fa:Addr)(h:Heap),(K w.params).In h->h.Ns mainGlobals mg->mg d.name=some (.ref fa)->
   ∃fd:FuncData,(∀(s:Shared)(u:Value),BindsTo s fd ⟨[u],[]⟩ [(x,u)])/\
    ∀base:Heap,(K w.params).In base->base.Ns mainGlobals mg->bV l.prog w (K w.params) mg base (CX w) k fa fd [x] (sp w))
  (hsp:∀(w:World)(H:Hp)(a:Addr)(ns:List Int),ns.length<=n->Hv H->jE (K w.params) H a (ns.map V.int)->sp w [.ref a] H (λv _=>v=.bl true) λ_ _ _=>False)
  (hCX:∀(w:World)(H:Hp)(s:Shared)(e:Value)(s':Shared),CX w [] H s (λ_ _ _=>False) e s'->False):
  PySem.W.WalkO q loose XP YP l.row.toRowW d [] (λf vs=>PySem.call f vs):=by
 refine Att.attach_call hn hdf λw s₀ s₁ mg mb fa o pm cd doc a vs ns G Y ho hd hcd hmg hobj hints hlen hg=>?_;have KX:=hY w _ Y;obtain⟨fd,hb,hF⟩:=F w mg fa _ KX G.T.g hmg;exact Bv KX G.T.g G.T.b G.T.builtins G.T.nolimit hg hobj hints (le_trans hlen hn2) hr hF hb (λH hO hS=>hsp w H a ns hlen hO hS) λH e s'=>hCX w H s₁ e s'
def fW(s:Stmt)(j:Nat):Stmt:=match s with
 |.ClassDef _ _ _ body _ _ _ _ _ _ _=>body.getD j (.Pass ⟨0,0,0,0⟩)
 |_=>.Pass ⟨0,0,0,0⟩
def aw(s:Stmt):Arguments:=match s with
 |.FunctionDef _ a _ _ _ _ _ _ _ _=>a
 |_=>{posonlyargs:=[],args:=[],vararg:=none,kwonlyargs:=[],kw_defaults:=[],kwarg:=none,defaults:=[]}
def ao(s:Stmt):List Stmt:=match s with
 |.FunctionDef _ _ b _ _ _ _ _ _ _=>b
 |_=>[]
def a9(s:Stmt):Scope:=match s with
 |.FunctionDef _ _ _ _ _ _ sc _ _ _=>sc
 |_=>{kind:=.function,names:=[],isGenerator:=false,isCoroutine:=false}
abbrev jg:ym:=λ_ _ _ _ _ _=>False
abbrev E0:XK:=λ_ _ _=>False
theorem tN{X:Cx}:jd jg X E0:=λ_ _ _ _ _ _ _ h=>h.elim
structure sC(K:Frag)(x qual:Str)(st:Stmt)(f:Addr)(fd:FuncData):Prop where
 ex:∃(oc:Value)(od:Option Addr)(kV doc pm:Value)(an:Option Addr)(cdv ct:Value)(osl:Array (Option Value)),
  fd=fnOf x qual (aw st) (ao st) (a9 st) .none kV doc pm an cdv ct/\K.lookup f=some ⟨oc,od,.func fd,osl⟩/\codeIn K cdv qual=true
 kp:PySem.W.keepIn K (.ref f)=true
section
variable{P:Program}{w:World}{K:Frag}{mg:Str->Option Value}{base:Heap}
theorem sC.ok{x qual:Str}{st:Stmt}{f:Addr}{fd:FuncData}{N ps:List Str}{k:Nat}{sp:Sp}(F:sC K x qual st f fd)(S:ax N ps (a9 st))(len:∀vs H Q E,sp vs H Q E->vs.length=ps.length)
  (hbody:∀(cdv:Value)(A:Around)(outer:List Env)(s:Shared)(H:Hp)(vs:List V)(Q:VK)(E:XK),ba k (A.deeper (envOfC qual (a9 st) s.heap.objs.size f cdv))->sp vs H Q E->
   ∃t,ip (iB jg P w K mg base N qual (a9 st) f cdv A outer s H E).nox (ao st) t/\t {nx:=λ_ H'=>Q .non H',rt:=Q} (start N vs) H):bV P w K mg base jg (k+1) f fd ps sp:=by
 obtain⟨oc,od,kV,doc,pm,an,cdv,ct,osl,rfl,lk,hcd⟩:=F.ex;refine BU lk hcd S len λA outer s H vs Q E hr hsp=>?_;obtain⟨t,h,q⟩:=hbody cdv A outer s H vs Q E hr hsp;exact⟨t,h.nox,q⟩
theorem sC.binds{x qual:Str}{st:Stmt}{f:Addr}{fd:FuncData}{ps:List Str}(F:sC K x qual st f fd)
  (h:∀(kV doc pm:Value)(an:Option Addr)(cdv ct:Value)(us:List Value),us.length=ps.length->bindArgs (fnOf x qual (aw st) (ao st) (a9 st) .none kV doc pm an cdv ct) ⟨us,[]⟩=pure (ps.zip us)):bO K fd ps []:=by
 obtain⟨oc,od,kV,doc,pm,an,cdv,ct,osl,rfl,lk,hcd⟩:=F.ex;exact .all (h kV doc pm an cdv ct)
theorem gu{x qual:Str}{st:Stmt}{f:Addr}{oc:Value}{od an:Option Addr}{osl:Array (Option Value)}{kV doc pm cdv ct:Value}(l:K.lookup f=some ⟨oc,od,.func (fnOf x qual (aw st) (ao st) (a9 st) .none kV doc pm an cdv ct),osl⟩)
  (c:codeIn K cdv qual=true) (k:PySem.W.keepIn K (.ref f)=true):sC K x qual st f (fnOf x qual (aw st) (ao st) (a9 st) .none kV doc pm an cdv ct):=⟨⟨oc,od,kV,doc,pm,an,cdv,ct,osl,rfl,l,c⟩,k⟩
end
theorem J2{A:Around}{k:Nat}(hr:ba k A):A.units+1<cLine:=Nat.lt_of_le_of_lt (Nat.add_le_add_left (by decide:1<=64) _) hr.units
section
variable{X:Cx}
theorem pv(i:Nat){x:Str}{pos:Pos}(hN:X.N[i]?=some x:=by rfl)(hv:qy X.env.scope x:=by first|exact Or.inl rfl|exact Or.inr (Or.inl rfl)|exact Or.inr (Or.inr rfl))(hd:(x == ("__debug__":Str))=false:=by decide)
  (hcd:(x == ("__classdict__":Str))=false:=by decide):PE X (.Name x pos) (jD i):=iL hN hv hd hcd
end
theorem Ki{A B:Prop}(h:B):if false=true then A else B:=by
 rw[if_neg Bool.false_ne_true];exact h
theorem Kh{A B:Prop}(h:A):if true=true then A else B:=by
 rw[if_pos rfl];exact h
def aB(H H':Hp):Prop:=∀b o,H b=some o->H' b=some o
theorem aB.refl(H:Hp):aB H H:=λ_ _ h=>h
theorem aB.trans{H H1 H2:Hp}(a:aB H H1)(b:aB H1 H2):aB H H2:=λc o h=>b c o (a c o h)
theorem aB.free{H H':Hp}(e:aB H H'){l:Addr}(h:H' l=Option.none):H l=Option.none:=by
 cases q:H l with
 |none=>rfl
 |some o=>
  rw[e l o q] at h;cases h
theorem aB.seq{K:Frag}{H H':Hp}{a:Addr}{xs:List V}(e:aB H H')(h:jE K H a xs):jE K H' a xs:=by
 rcases h with(h|⟨o,h⟩)|h
 ·exact .inl (.inl (e _ _ h))
 ·exact .inl (.inr ⟨o,e _ _ h⟩)
 ·exact .inr h
section
variable{κ:Type}[DecidableEq κ]
def me(kvs:List (κ×V))(k:κ):Option V:=(kvs.find? λkv=>decide (kv.1=k)).map (·.2)
def tj(kvs:List (κ×V))(k:κ)(v:V):List (κ×V):=
 if(kvs.any λkv=>decide (kv.1=k))=true then kvs.map (λkv=>if kv.1=k then(kv.1,v) else kv) else kvs++[(k,v)]
def Fy(kvs:List (κ×V))(k:κ):List (κ×V):=kvs.filter λkv=>decide (kv.1≠k)
theorem mK{p:κ×V}{r:List (κ×V)}{k:κ}(e:p.1=k):me (p::r) k=some p.2:=by simp[me,find?_cons,e]
theorem mL{p:κ×V}{r:List (κ×V)}{k:κ}(e:¬p.1=k):me (p::r) k=me r k:=by simp[me,find?_cons,e]
theorem sF(k:κ):∀kvs:List (κ×V),(kvs.any λkv=>decide (kv.1=k))=(me kvs k).isSome
 |[]=>rfl
 |p::r=>by
  rw[any_cons];by_cases e:p.1=k
  ·simp only[mK e,decide_eq_true e,Bool.true_or,Option.isSome_some]
  ·rw[mL e,decide_eq_false e,Bool.false_or];exact sF k r
theorem RelO.isSome_eq{o:Option V}{u:Option Value}(r:RelO o u):o.isSome=u.isSome:=by
 cases o with
 |none=>cases u with
  |none=>rfl
  |some _=>exact(show False from r).elim
 |some _=>cases u with
  |none=>exact(show False from r).elim
  |some _=>rfl
theorem RelO.getD{o:Option V}{u:Option Value}{d:V}{d':Value}(r:RelO o u)(rd:RelV d d'):RelV (o.getD d) (u.getD d'):=by
 cases o with
 |none=>cases u with
  |none=>exact rd
  |some _=>exact(show False from r).elim
 |some _=>cases u with
  |none=>exact(show False from r).elim
  |some _=>exact r
theorem KV.val{kvs:List (κ×V)}{vs:List (κ×Value)}(r:KV kvs vs)(k:κ):RelO (me kvs k) (valueAt vs k):=by
 unfold KV at r
 induction r with
 |nil=>exact True.intro
 |@cons p q ps qs h t ih=>
  obtain⟨h1,h2⟩:=h;by_cases e:p.1=k
  ·have e':q.1=k:=h1.symm.trans e;have b:valueAt (q::qs) k=some q.2:=by simp[valueAt,find?_cons,e']
   rw[mK e,b];exact h2
  ·have e':¬q.1=k:=λz=>e (h1.trans z);have b:valueAt (q::qs) k=valueAt qs k:=by simp[valueAt,find?_cons,e']
   rw[mL e,b];exact ih
theorem KV.any{kvs:List (κ×V)}{vs:List (κ×Value)}(r:KV kvs vs)(k:κ):(kvs.any λkv=>decide (kv.1=k))=vs.any λkv=>decide (kv.1=k):=by
 unfold KV at r
 induction r with
 |nil=>rfl
 |cons h t ih=>rw[any_cons,any_cons,ih,h.1]
theorem KV.repl{kvs:List (κ×V)}{vs:List (κ×Value)}(r:KV kvs vs)(k:κ){y:V}{u:Value}(ry:RelV y u):
  KV (kvs.map λkv=>if kv.1=k then(kv.1,y) else kv) (vs.map λkv=>if kv.1=k then(kv.1,u) else kv):=by
 unfold KV at r ⊢
 induction r with
 |nil=>exact .nil
 |@cons p q ps qs h t ih=>
  rw[map_cons,map_cons];refine .cons ?_ ih;obtain⟨h1,h2⟩:=h;by_cases e:p.1=k
  ·rw[if_pos e,if_pos (h1.symm.trans e)];exact⟨h1,ry⟩
  ·rw[if_neg e,if_neg (λz=>e (h1.trans z))];exact⟨h1,h2⟩
theorem KV.put{kvs:List (κ×V)}{vs:List (κ×Value)}(r:KV kvs vs)(k:κ){y:V}{u:Value}(ry:RelV y u):KV (tj kvs k y) (stored vs k u):=by
 unfold tj stored;rw[r.any k];by_cases e:(vs.any λkv=>decide (kv.1=k))=true
 ·rw[if_pos e,if_pos e];exact r.repl k ry
 ·rw[if_neg e,if_neg e];exact Paired.snoc r ⟨rfl,ry⟩
theorem KV.drop{kvs:List (κ×V)}{vs:List (κ×Value)}(r:KV kvs vs)(k:κ):KV (Fy kvs k) (without vs k):=by
 unfold KV at r ⊢;unfold Fy without
 induction r with
 |nil=>exact .nil
 |@cons p q ps qs h t ih=>
  obtain⟨h1,h2⟩:=h;rw[List.filter_cons,List.filter_cons];by_cases e:p.1=k
  ·have a:¬decide (p.1≠k)=true:=by simp[e]
   have b:¬decide (q.1≠k)=true:=by simp[h1.symm.trans e]
   rw[if_neg a,if_neg b];exact ih
  ·have e':¬q.1=k:=λz=>e (h1.trans z);have a:decide (p.1≠k)=true:=by simp[e]
   have b:decide (q.1≠k)=true:=by simp[e']
   rw[if_pos a,if_pos b];exact .cons ⟨h1,h2⟩ ih
theorem KV.keys{kvs:List (κ×V)}{vs:List (κ×Value)}(r:KV kvs vs):kvs.map (·.1)=vs.map (·.1):=by
 unfold KV at r
 induction r with
 |nil=>rfl
 |cons h t ih=>rw[map_cons,map_cons,ih,h.1]
theorem KV.length{kvs:List (κ×V)}{vs:List (κ×Value)}(r:KV kvs vs):kvs.length=vs.length:=Paired.length r
end
abbrev KT(H:Hp):List (List Key×V)->List (List Key×Addr×Value)->Prop:=Paired λp q=>p.1=q.1/\H q.2.1=some (.tup (p.1.map kV))/\RelV p.2 q.2.2
theorem KT.val{H:Hp}{kvs:List (List Key×V)}{xs:List (List Key×Addr×Value)}(r:KT H kvs xs)(k:List Key):RelO (me kvs k) ((atKey xs k).map (·.2)):=by
 induction r with
 |nil=>exact True.intro
 |@cons p q ps qs h t ih=>
  obtain⟨h1,_,h2⟩:=h;by_cases e:p.1=k
  ·have e':q.1=k:=h1.symm.trans e;have b:atKey (q::qs) k=some q.2:=by simp[atKey,find?_cons,e']
   rw[mK e,b];exact h2
  ·have e':¬q.1=k:=λz=>e (h1.trans z);have b:atKey (q::qs) k=atKey qs k:=by simp[atKey,find?_cons,e']
   rw[mL e,b];exact ih
theorem KT.repl{H:Hp}{kvs:List (List Key×V)}{xs:List (List Key×Addr×Value)}(r:KT H kvs xs)(k:List Key){y:V}{u:Value}(ry:RelV y u):
  KT H (kvs.map λkv=>if kv.1=k then(kv.1,y) else kv) (xs.map (putAt k u)):=by
 induction r with
 |nil=>exact .nil
 |@cons p q ps qs h t ih=>
  rw[map_cons,map_cons];refine .cons ?_ ih;obtain⟨h1,h2,h3⟩:=h;unfold putAt;by_cases e:p.1=k
  ·rw[if_pos e,if_pos (h1.symm.trans e)];exact⟨h1,h2,ry⟩
  ·rw[if_neg e,if_neg (λz=>e (h1.trans z))];exact⟨h1,h2,h3⟩
theorem KT.put{H:Hp}{kvs:List (List Key×V)}{xs:List (List Key×Addr×Value)}(r:KT H kvs xs)(k:List Key){b:Addr}{y:V}{u:Value}(hb:H b=some (.tup (k.map kV)))(ry:RelV y u):
  KT H (tj kvs k y) (storedH xs k b u):=by
 have e:(kvs.any λkv=>decide (kv.1=k))=(atKey xs k).isSome:=by
  rw[sF,(r.val k).isSome_eq,Option.isSome_map]
 unfold tj storedH;rw[e];by_cases q:(atKey xs k).isSome=true
 ·rw[if_pos q,if_pos q];exact r.repl k ry
 ·rw[if_neg q,if_neg q];exact Paired.snoc r ⟨rfl,hb,ry⟩
theorem KT.keeps{H H':Hp}{kvs:List (List Key×V)}{xs:List (List Key×Addr×Value)}(r:KT H kvs xs)(ht:∀b ys,H b=some (.tup ys)->H' b=some (.tup ys)):KT H' kvs xs:=
 Paired.mapP r λ_ _ z=>⟨z.1,ht _ _ z.2.1,z.2.2⟩
def F8(H:Hp)(a:Addr)(y:V)(r:Option V):Prop:=
 (∃kvs k,Rd H a (.dK kvs)/\y=kV k/\r=me kvs k)\/∃kvs k b,Rd H a (.dT kvs)/\y=.ref b/\H b=some (.tup (k.map kV))/\r=me kvs k
def F7(H:Hp)(a:Addr)(y v:V)(H':Hp):Prop:=
 (∃kvs k,H a=some (.dK kvs)/\y=kV k/\kvs.length<sizeLine/\H'=aS H a (.dK (tj kvs k v)))\/
 ∃kvs k b,H a=some (.dT kvs)/\y=.ref b/\H b=some (.tup (k.map kV))/\kvs.length<sizeLine/\H'=aS H a (.dT (tj kvs k v))
theorem F8.k{H:Hp}{a:Addr}{kvs:List (Key×V)}{k:Key}(e:H a=some (.dK kvs)):F8 H a (kV k) (me kvs k):=.inl ⟨kvs,k,.inl e,rfl,rfl⟩
theorem F8.t{H:Hp}{a b:Addr}{kvs:List (List Key×V)}{k:List Key}(e:H a=some (.dT kvs))(eb:H b=some (.tup (k.map kV))):F8 H a (.ref b) (me kvs k):=.inr ⟨kvs,k,b,.inl e,rfl,eb,rfl⟩
theorem F7.k{H:Hp}{a:Addr}{kvs:List (Key×V)}{k:Key}{v:V}(e:H a=some (.dK kvs))(hl:kvs.length<sizeLine):F7 H a (kV k) v (aS H a (.dK (tj kvs k v))):=.inl ⟨kvs,k,e,rfl,hl,rfl⟩
theorem F7.t{H:Hp}{a b:Addr}{kvs:List (List Key×V)}{k:List Key}{v:V}(e:H a=some (.dT kvs))(eb:H b=some (.tup (k.map kV)))(hl:kvs.length<sizeLine):
  F7 H a (.ref b) v (aS H a (.dT (tj kvs k v))):=.inr ⟨kvs,k,b,e,rfl,eb,hl,rfl⟩
section
variable{X:Cx}{pins:List (Addr×Obj)}{σ:St}{H:Hp}{s:Shared}{a:Addr}{y v:V}{u r:Value}{o:Option V}{A:Around}{E:Value->Shared->Prop}
theorem ay.big(I:ay X pins σ H s):sysModules<s.heap.objs.size:=by
 have h:mainGlobals<s.heap.objs.size:=(I.mod.glob.keeps I.bk).lt;exact lt_trans (by decide) h
theorem ED{h':Heap}{t':Nat}{ob:HO}(I:ay X pins σ H s)(mu:Jr (H a))(hs:Heap.SameBut a s.heap h')(he:∃q,h'.get? a=some q)(new:aY X.prog X.w (aS H a ob) h' a ob):
  ay X pins σ (aS H a ob) {s with heap:=h',toks:=t'}:=
 I.write (x:=a) (e:=a) mu (.inl rfl) (λb q hb z=>(hs.2 b hb).trans z) he new
end
end L2
namespace L3
open PySem
inductive D where
 |non|bl (b:Bool)|int (i:Int)|str (x:Str)|tup (ds:List D)|lst (ds:List D)|obj (c:String) (ns:List Str) (ds:List D)|fn (k:Nat) (ds:List D)
inductive O where
 |lst (ds:List D)|obj (c:String) (ns:List Str) (ds:List D)|dic (kvs:List (List Int×Int))|par (a:Nat) (o:O)|fdic (kvs:List (List Int×Int))|tab (kvs:List (D×D))|dik (kvs:List (Int×Int))
abbrev DK:Nat:=1000000
noncomputable instance decD:DecidableEq D:=λa b=>Classical.propDecidable (a=b)
noncomputable def O.val:O->D
 |.lst ds=>.lst ds
 |.obj c ns ds=>.obj c ns ds
 |.dic _=>.non
 |.par _ _=>.non
 |.fdic _=>.non
 |.tab _=>.non
 |.dik _=>.fn DK []
def okK:Nat->D->Bool
 |_,.int _=>true
 |n+1,.tup ds=>ds.all (okK n)
 |_,_=>false
def okT:D->Bool
 |.tup ds=>ds.all (okK 5)
 |_=>false
inductive S where
 |sh (d:D)|own (o:O)|two (d:D) (a:Nat) (o:O)
def S.val:S->D
 |.sh d=>d
 |.own o=>o.val
 |.two d _ _=>d
def S.nd:S->Bool
 |.own (.dic _)=>false
 |.own (.par _ _)=>false
 |.own (.fdic _)=>false
 |.own (.tab _)=>false
 |.two _ _ _=>false
 |_=>true
inductive R where
 |ok (s:S)|exc (x:D)
abbrev av:=List (Option S)
inductive Out where
 |next (ρ:av)|brk (ρ:av)|cont (ρ:av)|ret (s:S)|exc (x:D)
abbrev ME:=av->Option R
abbrev MC:=av->Option Out
inductive RI where
 |ok (ds:List D)|exc (x:D)
abbrev MI:=av->Option RI
abbrev MB:=D->av->Option av
@[reducible] def okD (d:D):Option R:=some (.ok (.sh d))
@[reducible] def okI (i:Int):Option R:=okD (.int i)
@[reducible] def okB (b:Bool):Option R:=okD (.bl b)
@[reducible] def okL (ds:List D):Option R:=some (.ok (.own (.lst ds)))
def b9(r:Option R)(k:D->Option R):Option R:=match r with
 |some (.ok s)=>k s.val
 |some (.exc x)=>some (.exc x)
 |none=>none
def fZ(r:Option R)(k:S->Option Out):Option Out:=match r with
 |some (.ok s)=>k s
 |some (.exc x)=>some (.exc x)
 |none=>none
@[simp] theorem bindV_ok (s:S) (k:D->Option R):b9 (some (.ok s)) k=k s.val:=rfl
@[simp] theorem bindV_exc (x:D) (k:D->Option R):b9 (some (.exc x)) k=some (.exc x):=rfl
@[simp] theorem bindV_none (k:D->Option R):b9 none k=none:=rfl
@[simp] theorem bindO_ok (s:S) (k:S->Option Out):fZ (some (.ok s)) k=k s:=rfl
@[simp] theorem bindO_exc (x:D) (k:S->Option Out):fZ (some (.exc x)) k=some (.exc x):=rfl
@[simp] theorem bindO_none (k:S->Option Out):fZ none k=none:=rfl
@[simp] theorem S.val_sh (d:D):(S.sh d).val=d:=rfl
@[simp] theorem S.val_own (o:O):(S.own o).val=o.val:=rfl
@[simp] theorem O.val_lst (ds:List D):(O.lst ds).val=.lst ds:=rfl
@[simp] theorem O.val_obj (c:String) (ns:List Str) (ds:List D):(O.obj c ns ds).val=.obj c ns ds:=rfl
noncomputable def eVar(i:Nat):ME:=λρ=>match ρ[i]? with
 |some (some (.sh d))=>okD d
 |_=>none
noncomputable def uP(i:Nat):ME:=λρ=>match ρ[i]? with
 |some (some (.own (.dic _)))=>none
 |some (some (.own (.par _ _)))=>none
 |some (some (.own (.fdic _)))=>none
 |some (some (.own (.tab _)))=>none
 |some (some (.two _ _ _))=>none
 |some (some s)=>okD s.val
 |_=>none
noncomputable def eC(d:D):ME:=λ_=>okD d
noncomputable def jw(f:D->Option R)(a:ME):ME:=λρ=>b9 (a ρ) f
noncomputable def eBin(f:D->D->Option R)(a b:ME):ME:=λρ=>b9 (a ρ) λx=>b9 (b ρ) λy=>f x y
def bU:List ME->av->(List D->Option R)->Option R
 |[],_,k=>k []
 |e::es,ρ,k=>b9 (e ρ) λd=>bU es ρ λds=>k (d::ds)
def au(f:List D->Option R)(as:List ME):ME:=λρ=>bU as ρ f
def flat:D->Bool
 |.non=>true|.bl _=>true|.int _=>true|.str _=>true|_=>false
def iw:Option R->Option R
 |some (.ok s)=>if flat s.val then okD s.val else none
 |_=>none
def da(f:List D->Option R)(as:List ME):ME:=λρ=>iw (bU as ρ f)
def lim:Nat:=1000000
def eTup(as:List ME):ME:=au (λds=>if ds.length<=lim then okD (.tup ds) else none) as
def eLst(as:List ME):ME:=au (λds=>if ds.length<=lim then okL ds else none) as
def asB:D->(Bool->Option R)->Option R
 |.bl b,k=>k b
 |_,_=>none
def gQ(a b:ME):ME:=λρ=>b9 (a ρ) λx=>asB x λc=>if c=true then b ρ else okB false
def CI(a b:ME):ME:=λρ=>b9 (a ρ) λx=>asB x λc=>if c=true then okB true else b ρ
def Ji(x:D):Option R:=asB x λc=>okB (!c)
def wV(a:ME):ME:=jw Ji a
def GV(c a b:ME):ME:=λρ=>b9 (c ρ) λx=>asB x λt=>if t=true then a ρ else b ρ
def aH(a b:MC):MC:=λρ=>match a ρ with
 |some (.next ρ')=>b ρ'
 |o=>o
def cb:MC:=λρ=>some (.next ρ)
def aX(i:Nat)(e:ME):MC:=λρ=>fZ (e ρ) λs=>some (.next (ρ.set i (some s)))
def bL(e:ME):MC:=λρ=>fZ (e ρ) λs=>some (.ret s)
def asBO:D->(Bool->Option Out)->Option Out
 |.bl b,k=>k b
 |_,_=>none
def jU(c:ME)(a b:MC):MC:=λρ=>fZ (c ρ) λs=>asBO s.val λt=>if t=true then a ρ else b ρ
def dem(i:Nat)(ρ:av):av:=match ρ[i]? with
 |some (some (.own (.dic _)))=>ρ
 |some (some (.own (.par _ _)))=>ρ
 |some (some (.own (.fdic _)))=>ρ
 |some (some (.own (.tab _)))=>ρ
 |some (some (.own o))=>ρ.set i (some (.sh o.val))
 |_=>ρ
def mf(i:Nat)(c:MC):MC:=λρ=>c (dem i ρ)
def z9(i:Nat)(ρ:av)(k:List D->Option Out):Option Out:=match ρ[i]? with
 |some (some (.own (.lst ds)))=>k ds
 |_=>none
def hU(i:Nat)(e:ME):MC:=λρ=>z9 i ρ λds=>fZ (e ρ) λs=>if ds.length<lim then some (.next (ρ.set i (some (.own (.lst (ds++[s.val])))))) else none
def jr:D->Option (List D)
 |.lst ds=>some ds
 |.tup ds=>some ds
 |_=>none
def mB(i:Nat)(e:ME):MC:=λρ=>z9 i ρ λds=>fZ (e ρ) λs=>match jr s.val with
 |some es=>if ds.length+es.length<=lim then some (.next (ρ.set i (some (.own (.lst (ds++es)))))) else none
 |none=>none
def IV(n:Nat)(i:Int):Option Nat:=if 0<=i then(if i<n then some i.toNat else none) else if -(n:Int)<=i then some (i+n).toNat else none
def cy(j:Nat):MB:=λd ρ=>some (ρ.set j (some (.sh d)))
def Al:List Nat->List D->av->av
 |j::js,d::ds,ρ=>Al js ds (ρ.set j (some (.sh d)))
 |_,_,ρ=>ρ
def EV(js:List Nat):MB:=λd ρ=>match d with
 |.tup ds=>if ds.length=js.length then some (Al js ds ρ) else none
 |_=>none
def e9(bd:MB)(body:MC):List D->av->Option Out
 |[],ρ=>some (.next ρ)
 |d::ds,ρ=>match bd d ρ with
  |none=>none
  |some ρ1=>match body ρ1 with
   |some (.next ρ2)=>e9 bd body ds ρ2
   |some (.cont ρ2)=>e9 bd body ds ρ2
   |some (.brk ρ2)=>some (.next ρ2)
   |o=>o
def kX(it:MI)(bd:MB)(body:MC):MC:=λρ=>match it ρ with
 |some (.ok ds)=>e9 bd body ds ρ
 |some (.exc x)=>some (.exc x)
 |none=>none
def lA(e:ME):MI:=λρ=>match e ρ with
 |some (.ok s)=>(jr s.val).map .ok
 |some (.exc x)=>some (.exc x)
 |none=>none
def rng(lo hi:Int):List D:=(List.range (hi - lo).toNat).map λ(k:Nat)=>D.int (lo+k)
def jI(i:Int):Bool:=decide (-(2 ^ 62)<=i) && decide (i<2 ^ 62)
def rW(e:ME)(ρ:av)(k:D->Option RI):Option RI:=match e ρ with
 |some (.ok s)=>k s.val
 |some (.exc x)=>some (.exc x)
 |none=>none
def kG(e:ME):MI:=λρ=>rW e ρ λx=>match x with
 |.int hi=>if jI hi=true then some (.ok (rng 0 hi)) else none
 |_=>none
def ia(a b:ME):MI:=λρ=>rW a ρ λx=>rW b ρ λy=>match x,y with
 |.int lo,.int hi=>if jI lo=true/\jI hi=true then some (.ok (rng lo hi)) else none
 |_,_=>none
def gR(bd:MB)(cond elt:ME)(ρ:av):List D->List D->Option R
 |[],acc=>if acc.length<=lim then okL acc else none
 |d::ds,acc=>match bd d ρ with
  |none=>none
  |some ρ1=>b9 (cond ρ1) λc=>asB c λt=>if t=true then b9 (elt ρ1) λx=>gR bd cond elt ρ ds (acc++[x]) else gR bd cond elt ρ ds acc
def d8(js:List Nat)(ρ:av):av:=js.foldl (λρ j=>ρ.set j none) ρ
def qi(js:List Nat)(it:MI)(bd:MB)(cond elt:ME):ME:=λρ=>match it ρ with
 |some (.ok ds)=>if ds.length<=lim then gR bd cond elt (d8 js ρ) ds [] else none
 |some (.exc x)=>some (.exc x)
 |none=>none
def bD(c:ME)(body:MC):Nat->av->Option Out
 |0,_=>none
 |n+1,ρ=>fZ (c ρ) λs=>asBO s.val λt=>if t=true then(match body ρ with
   |some (.next ρ2)=>bD c body n ρ2
   |some (.cont ρ2)=>bD c body n ρ2
   |some (.brk ρ2)=>some (.next ρ2)
   |o=>o) else some (.next ρ)
def qO(fuel:av->Nat)(c:ME)(body:MC):MC:=λρ=>bD c body (fuel ρ) ρ
def aN(n:Nat)(ds:List D):av:=ds.map (λd=>some (.sh d))++replicate (n - ds.length) none
def zd:Option Out->Option R
 |some (.ret s)=>some (.ok s)
 |some (.next _)=>okD .non
 |some (.exc x)=>some (.exc x)
 |_=>none
noncomputable def gv(np n:Nat)(g:MC):List D->Option R:=λds=>if ds.length=np then zd (g (aN n ds)) else none
def cz:D->D->Option R
 |.int i,.int j=>okI (i+j)
 |.str x,.str y=>if x.length+y.length<=lim then okD (.str (x++y)) else none
 |.tup xs,.tup ys=>if xs.length+ys.length<=lim then okD (.tup (xs++ys)) else none
 |.lst xs,.lst ys=>if xs.length+ys.length<=lim then okL (xs++ys) else none
 |_,_=>none
def uR:D->D->Option R
 |.int i,.int j=>okI (i - j)
 |_,_=>none
def gm(i:Int):Bool:=decide (-(2 ^ 64)<i) && decide (i<2 ^ 64)
def nW:D->D->Option R
 |.int i,.int j=>if(gm i || gm j)=true then okI (i * j) else none
 |_,_=>none
def Jh(ds:List D):D->Option R
 |.int k=>if -(2 ^ 60)<=k/\k<2 ^ 60/\ds.length * k.toNat<=lim then okL (replicate k.toNat ds).flatten else none
 |_=>none
def Cd(a b:ME):ME:=λρ=>match a ρ with
 |some (.ok (.own (.lst ds)))=>b9 (b ρ) (Jh ds)
 |some (.exc x)=>some (.exc x)
 |_=>none
def dMod:D->D->Option R
 |.int i,.int j=>if 0<j then okI (i % j) else none
 |_,_=>none
def y0:D->D->Option R
 |.int i,.int j=>if 0<j/\j<1073741824 then okI (i / j) else none
 |_,_=>none
def Jk(p:Int->Int->Bool):D->D->Option R
 |.int i,.int j=>okB (p i j)
 |_,_=>none
def EF:=Jk λi j=>decide (i<j)
def xZ:=Jk λi j=>decide (j<i)
def Fx:D->D->Option Bool
 |.int i,.int j=>some (decide (i=j))
 |.str x,.str y=>some (decide (x=y))
 |.bl x,.bl y=>some (decide (x=y))
 |.non,.non=>some true
 |.non,.int _=>some false|.int _,.non=>some false|.non,.str _=>some false|.str _,.non=>some false|.non,.bl _=>some false|.bl _,.non=>some false
 |.int _,.str _=>some false|.str _,.int _=>some false|.bl _,.str _=>some false|.str _,.bl _=>some false
 |_,_=>none
def pf(x y:D):Option R:=match Fx x y with
 |some b=>okB b
 |none=>none
def Ci(x y:D):Option R:=match Fx x y with
 |some b=>okB (!b)
 |none=>none
def sf:D->Option R
 |.non=>okB true
 |_=>okB false
def kK:D->Option R
 |.non=>okB false
 |_=>okB true
def xf{α:Type}(xs:List α)(i:Int):Option α:=(IV xs.length i).bind λj=>xs[j]?
def dIx:D->D->Option R
 |.tup ds,.int i=>(xf ds i).bind okD
 |.lst ds,.int i=>(xf ds i).bind okD
 |.str x,.int i=>if x.length<=lim then(xf x.cps.toList i).bind λc=>okD (.str ⟨#[c]⟩) else none
 |_,_=>none
def fV:D->Option R
 |.tup ds=>okI ds.length
 |.lst ds=>okI ds.length
 |.str x=>if x.length<=lim then okI x.length else none
 |_=>none
def nU:D->Option R
 |.lst ds=>okD (.tup ds)
 |.tup ds=>okD (.tup ds)
 |_=>none
def Fo:D->String
 |.non => "NoneType" | .bl _ => "bool" | .int _ => "int" | .str _ => "str" | .tup _ => "tuple" | .lst _ => "list" | .obj c _ _=>c|.fn _ _ => "function"
def Cj(T:String):D->Option R
 |.obj _ _ _=>none
 |.fn _ _=>none
 |d=>okB (Fo d == T || (Fo d == "bool" && T == "int"))
def f1(F:D->Option R):List D->Option R
 |[d]=>F d
 |_=>none
def f2(F:D->D->Option R):List D->Option R
 |[d,e]=>F d e
 |_=>none
def Cg:D->D->Option R
 |.int i,.int j=>if 0<=j then okI (i / 2 ^ j.toNat) else none
 |_,_=>none
def uS:D->D->Option R
 |.int i,.int j=>if 0<=i/\0<=j then okI ((i.toNat &&& j.toNat:Nat):Int) else none
 |_,_=>none
def Ha:D->D->Option R
 |.int i,.int j=>if 0<=i/\0<=j then okI ((i.toNat ||| j.toNat:Nat):Int) else none
 |_,_=>none
def EE:D->D->Option R
 |.int i,.int j=>if 0<=j/\j<=1000000/\i.natAbs<2 ^ 64 then okI (i ^ j.toNat) else none
 |_,_=>none
def GY:D->Option R
 |.int i=>okI (-i)
 |_=>none
def Fz:D->D->Option R
 |.int i,.int j=>okI (if j<i then j else i)
 |_,_=>none
def Ck:D->Option R
 |.int i=>okI i
 |.bl b=>okI (if b then 1 else 0)
 |_=>none
def Jf:D->Option RI
 |.lst xs=>some (.ok ((List.range xs.length).zipWith (λ(i:Nat) d=>D.tup [.int i,d]) xs))
 |.tup xs=>some (.ok ((List.range xs.length).zipWith (λ(i:Nat) d=>D.tup [.int i,d]) xs))
 |_=>none
def xR(a:ME):MI:=λρ=>rW a ρ Jf
def Kn:D->D->Bool
 |.non,.non=>true
 |.bl a,.bl b=>a == b
 |.bl a,.int b=>(if a then 1 else 0) == b
 |.int a,.bl b=>a == (if b then 1 else 0)
 |.int a,.int b=>a == b
 |.str a,.str b=>a == b
 |_,_=>false
def HG(x:D)(ds:List D):Bool:=ds.any λy=>Kn y x
def JA(neg:Bool)(x y:D):Option R:=match jr y with
 |some ds=>if flat x=true/\ds.all flat=true then okB (if neg then !HG x ds else HG x ds) else none
 |none=>none
def iG(n d:Nat):Option Int->Nat
 |none=>d
 |some v=>if v<0 then(v+(n:Int)).toNat else min v.toNat n
def zQ(ds:List D)(lo hi:Option Int):List D:=(ds.drop (iG ds.length 0 lo)).take (iG ds.length ds.length hi - iG ds.length 0 lo)
def nV(x:D)(lo hi:Option Int):Option R:=match x with
 |.tup ds=>if iG ds.length 0 lo=0/\iG ds.length ds.length hi=ds.length then none else okD (.tup (zQ ds lo hi))
 |.lst ds=>okL (zQ ds lo hi)
 |_=>none
def AY(o:Option ME)(ρ:av)(k:Option Int->Option R):Option R:=match o with
 |none=>k none
 |some e=>b9 (e ρ) λd=>match d with
  |.int i=>k (some i)
  |_=>none
def ic(e:ME)(lo hi:Option ME):ME:=λρ=>b9 (e ρ) λx=>AY lo ρ λl=>AY hi ρ λh=>nV x l h
def wQ(f:Str):List Str->List D->Option D
 |n::ns,d::ds=>if f == n then some d else wQ f ns ds
 |_,_=>none
def Cn(cs:List String)(f:Str):D->Option R
 |.obj c ns ds=>if cs.contains c=true then(wQ f ns ds).bind okD else none
 |_=>none
def jK(m:Str)(tb:String->Option (List D->Option R))(o:ME)(as:List ME):ME:=λρ=>b9 (o ρ) λx=>match x with
 |.obj c ns ds=>if ns.contains m=true then none else(match tb c with
  |some F=>bU as ρ λvs=>F (.obj c ns ds::vs)
  |none=>none)
 |_=>none
abbrev jQ:=O->List D->Option O
abbrev MG:=av->O->Option O
def aI:List ME->av->Option (List D)
 |[],_=>some []
 |e::es,ρ=>match e ρ with
  |some (.ok s)=>(aI es ρ).map (s.val::·)
  |_=>none
def putN(f:Str):List Str->List Str
 |[]=>[f]
 |n::r=>if n=f then n::r else n::putN f r
def yN(f:Str)(d:D):List Str->List D->List D
 |[],_=>[d]
 |n::ns,x::ds=>if n=f then d::ds else x::yN f d ns ds
 |_::_,[]=>[]
def BL:MG:=λ_ o=>some o
def pZ(g h:MG):MG:=λρ o=>(g ρ o).bind (h ρ)
def pY(cs:List String)(f:Str)(e:ME):MG:=λρ o=>match e ρ,o with
 |some (.ok s),.obj c ns ds=>if cs.contains c=true/\ns.length=ds.length/\ns.length<900 then some (.obj c (putN f ns) (yN f s.val ns ds)) else none
 |_,_=>none
def uB(F:jQ)(as:List ME):MG:=λρ o=>(aI as ρ).bind (F o)
noncomputable def Fw(np n:Nat)(g:MG):jQ:=λo ds=>if ds.length+1=np then g (none::aN (n - 1) ds) o else none
def xV(c:String)(F:jQ)(as:List ME):ME:=λρ=>bU as ρ λds=>match F (.obj c [] []) ds with
 |some o=>some (.ok (.own o))
 |none=>none
def wZ:D->D->Option R
 |.lst ds,.lst []=>okB (!ds.isEmpty)
 |_,_=>none
def iA(f:D->D->Option Bool):List D->List D->Option Bool
 |[],[]=>some true
 |x::xs,y::ys=>(f x y).bind λb=>(iA f xs ys).bind λc=>some (b && c)
 |_,_=>some false
def ml:Nat->D->D->Option Bool
 |0,_,_=>none
 |_+1,.int i,.int j=>some (i == j)
 |_+1,.str x,.str y=>some (x == y)
 |n+1,.tup xs,.tup ys=>iA (ml n) xs ys
 |n+1,.lst xs,.lst ys=>if xs.length=ys.length then iA (ml n) xs ys else some false
 |_+1,_,_=>none
def Jj(n:Nat)(x y:D):Option R:=(ml n x y).bind λb=>okB b
theorem gO(f:D->D->Option Bool):∀(xs ys:List D)(b:Bool),iA f xs ys=some b->b=((List.range (min xs.length ys.length)).all (λj=>((xs[j]?).bind λx=>(ys[j]?).bind λy=>f x y) == some true) && (xs.length == ys.length))
 |[],[],b,h=>by cases h;rfl
 |[],_::_,b,h=>by cases h;rfl
 |_::_,[],b,h=>by cases h;rfl
 |x::xs,y::ys,b,h=>by
  have h:(f x y).bind (λb=>(iA f xs ys).bind λc=>some (b && c))=some b:=h;cases h1:f x y with
  |none=>rw[h1] at h;cases h
  |some b1=>
   rw[h1] at h;cases h2:iA f xs ys with
   |none=>rw[h2] at h;cases h
   |some b2=>
    rw[h2] at h;cases h;rw[gO f xs ys b2 h2,length_cons,length_cons,Nat.succ_min_succ,List.range_succ_eq_map,List.all_cons,List.all_map];have e0:(((x::xs)[0]?).bind λx=>((y::ys)[0]?).bind λy=>f x y)=some b1:=h1;rw[e0];have e1:((xs.length+1 == ys.length+1):Bool)=(xs.length == ys.length):=by rw[Bool.eq_iff_iff,beq_iff_eq,beq_iff_eq];omega
    rw[e1];cases b1 with
    |true=>rfl
    |false=>rfl
theorem xT(f:D->D->Option Bool):∀(xs ys:List D)(b:Bool),iA f xs ys=some b->∀(j:Nat)(x y:D),xs[j]?=some x->ys[j]?=some y->∃c,f x y=some c
 |[],ys,b,h,j,x,y,hx,hy=>by cases hx
 |_::_,[],b,h,j,x,y,hx,hy=>by cases hy
 |x::xs,y::ys,b,h,j,x',y',hx,hy=>by
  have h:(f x y).bind (λb=>(iA f xs ys).bind λc=>some (b && c))=some b:=h;cases h1:f x y with
  |none=>rw[h1] at h;cases h
  |some b1=>
   rw[h1] at h;cases h2:iA f xs ys with
   |none=>rw[h2] at h;cases h
   |some b2=>
    cases j with
    |zero=>cases hx;cases hy;exact⟨b1,h1⟩
    |succ j=>exact xT f xs ys b2 h2 j x' y' hx hy
end L3
namespace L3
end L3
namespace L3
open PySem
abbrev Tb:=List (List Int×Int)
end L3
namespace L3
mutual
def noFn:D->Bool
 |.fn _ _=>false
 |.tup ds=>iu ds
 |.lst ds=>iu ds
 |.obj _ _ ds=>iu ds
 |.non=>true
 |.bl _=>true
 |.int _=>true
 |.str _=>true
def iu:List D->Bool
 |[]=>true
 |d::ds=>noFn d && iu ds
end
abbrev CA:=av->Option D
def jY(ρ:av):List Nat->Option (List D)
 |[]=>some []
 |i::r=>match ρ[i]? with
  |some (some (.sh d))=>(jY ρ r).map (d::·)
  |_=>none
def dems:List Nat->av->av
 |[],ρ=>ρ
 |i::r,ρ=>dems r (dem i ρ)
def He(k:Nat)(is:List Nat):CA:=λρ=>(jY (dems is ρ) is).map (.fn k)
def JB(c:ME)(a b:CA):CA:=λρ=>match c ρ with
 |some (.ok s)=>(match s.val with
  |.bl t=>if t=true then a ρ else b ρ
  |_=>none)
 |_=>none
noncomputable def GS(np n:Nat)(g:CA):List D->Option R:=λds=>if ds.length=np then(g (aN n ds)).map (λd=>.ok (.sh d)) else none
def KF(n:Nat)(g:ME):List D->Option R:=λds=>g (aN n ds)
end L3
namespace L3
end L3
namespace L3
open PySem
def O.core:O->O
 |.par _ o=>o
 |o=>o
def O.put:O->O->O
 |.par a _,o'=>.par a o'
 |_,o'=>o'
abbrev MF:=O->List D->List D->Option (D×O)
def jT(n a:Nat)(o:O)(ds es:List D):av:=(aN n (ds++.non::es)).set ds.length (some (.own (.par a o)))
def outP(j a:Nat):Option Out->Option (D×O)
 |some (.ret (.two d b o))=>if b=a then some (d,o) else none
 |some (.next ρ)=>match ρ[j]? with
  |some (some (.own (.par b o)))=>if b=a then some (.non,o) else none
  |_=>none
 |_=>none
open Classical in
abbrev MP:=av->Option (D×av)
def mX:MC:=λ_=>none
def Ce:ME:=λ_=>none
abbrev Td:=List (D×D)
noncomputable section
def fX(kvs:Td)(k:D):Option D:=(kvs.find? λp=>decide (p.1=k)).map (·.2)
def vR(kvs:Td)(k v:D):Td:=if(fX kvs k).isSome=true then kvs.map (λp=>if p.1=k then(p.1,v) else p) else kvs++[(k,v)]
def fY(i:Nat)(ρ:av):Option (O×Td):=match ρ[i]? with
 |some (some (.own o))=>(match o.core with
  |.tab kvs=>some (o,kvs)
  |_=>none)
 |_=>none
theorem fL{i:Nat}{ρ:av}{o:O}{kvs:Td}(h:fY i ρ=some (o,kvs)):ρ[i]?=some (some (.own o))/\o.core=.tab kvs:=by
 unfold fY at h;split at h
 ·rename_i u hu;split at h
  ·rename_i k hk;cases h;exact⟨hu,hk⟩
  ·cases h
 ·cases h
def uA(r:Option R):Option D:=match r with
 |some (.ok (.sh k))=>if okT k=true then some k else none
 |_=>none
theorem pV{r:Option R}{k:D}(h:uA r=some k):r=okD k/\okT k=true:=by
 unfold uA at h;split at h
 ·split at h
  ·rename_i hk;cases h;exact⟨rfl,hk⟩
  ·cases h
 ·cases h
def An(i:Nat):MC:=λρ=>some (.next (ρ.set i (some (.own (.tab [])))))
def gP(neg:Bool)(i:Nat)(g:ME):ME:=λρ=>(fY i ρ).bind λp=>(uA (g ρ)).bind λk=>okB (neg != (fX p.2 k).isSome)
def pF(i:Nat)(gk ge:ME):MC:=λρ=>match ge ρ with
 |some (.ok (.sh v))=>(fY i ρ).bind λp=>(uA (gk ρ)).bind λk=>if p.2.length<lim then some (.next (ρ.set i (some (.own (p.1.put (.tab (vR p.2 k v))))))) else none
 |_=>none
def nQ(i:Nat):ME:=λρ=>(fY i ρ).bind λp=>okI p.2.length
def lG(i:Nat):ME:=λρ=>(fY i ρ).bind λp=>okL (p.2.map λq=>D.tup [q.1,q.2])
theorem BD{k:D}(h:okT k=true):uA (okD k)=some k:=by unfold uA okD;dsimp only;rw[if_pos h]
theorem kL{i:Nat}{ρ:av}{o:O}{kvs:Td}(h:ρ[i]?=some (some (.own o)))(hc:o.core=.tab kvs):fY i ρ=some (o,kvs):=by unfold fY;rw[h];dsimp only;rw[hc]
theorem wI{n:Bool}{i:Nat}{g:ME}{ρ:av}{o:O}{kvs:Td}{k:D}(h:ρ[i]?=some (some (.own o)))(hc:o.core=.tab kvs)(hk:g ρ=okD k)(ok:okT k=true):gP n i g ρ=okB (n != (fX kvs k).isSome):=by
 unfold gP;rw[kL h hc,hk];dsimp only[Option.bind_some];rw[BD ok];rfl
theorem FY{i:Nat}{gk ge:ME}{ρ:av}{o:O}{kvs:Td}{k v:D}(h:ρ[i]?=some (some (.own o)))(hc:o.core=.tab kvs)(hk:gk ρ=okD k)(hv:ge ρ=okD v)(ok:okT k=true)(hl:kvs.length<lim):pF i gk ge ρ=some (.next (ρ.set i (some (.own (o.put (.tab (vR kvs k v))))))):=by
 unfold pF;rw[hv];dsimp only[okD];rw[kL h hc];dsimp only[Option.bind_some];rw[hk,BD ok];dsimp only[Option.bind_some];rw[if_pos hl]
theorem wB{i:Nat}{ρ:av}{o:O}{kvs:Td}(h:ρ[i]?=some (some (.own o)))(hc:o.core=.tab kvs):nQ i ρ=okI kvs.length:=by unfold nQ;rw[kL h hc];rfl
theorem Ee{i:Nat}{ρ:av}{o:O}{kvs:Td}(h:ρ[i]?=some (some (.own o)))(hc:o.core=.tab kvs):lG i ρ=okL (kvs.map λq=>D.tup [q.1,q.2]):=by unfold lG;rw[kL h hc];rfl
theorem getD_none{kvs:Td}{k:D}(h:∀p∈kvs,p.1≠k):fX kvs k=none:=by
 unfold fX;rw[List.find?_eq_none.mpr λp hp=>by simpa using h p hp];rfl
theorem Ax{kvs:Td}{k:D}(v:D)(h:∀p∈kvs,p.1≠k):vR kvs k v=kvs++[(k,v)]:=by
 unfold vR;rw[getD_none h];exact if_neg (by decide)
end
end L3
namespace L3
open PySem PySem.SeqAt
mutual
def dS(h:Heap):D->Value->Prop
 |.int i,v=>∃t,v=.int i t
 |.tup ds,v=>∃a items,v=.ref a/\h.IsTuple a items/\dR h ds items.toList
 |.non,_=>False
 |.bl _,_=>False
 |.str _,_=>False
 |.lst _,_=>False
 |.obj _ _ _,_=>False
 |.fn _ _,_=>False
def dR(h:Heap):List D->List Value->Prop
 |[],vs=>vs=[]
 |d::ds,vs=>∃v r,vs=v::r/\dS h d v/\dR h ds r
end
mutual
def uF:D->Int
 |.int i=>hashInt i
 |.tup ds=>reduceHash (Builtin.Tuple.tupleHashOf (lB ds))
 |_=>0
def lB:List D->List Int
 |[]=>[]
 |d::ds=>uF d::lB ds
end
mutual
def qj:D->Nat
 |.tup ds=>ka ds+1
 |_=>1
def ka:List D->Nat
 |[]=>0
 |d::ds=>qj d+ka ds
end
mutual
def kJ:D->Nat
 |.tup ds=>dU ds+1
 |_=>0
def dU:List D->Nat
 |[]=>0
 |d::ds=>max (kJ d) (dU ds)
end
theorem d4{h:Heap}{i:Int}{v:Value}:dS h (.int i) v↔∃t,v=.int i t:=by unfold dS;exact Iff.rfl
theorem dH{h:Heap}{ds:List D}{v:Value}:dS h (.tup ds) v↔∃a items,v=.ref a/\h.IsTuple a items/\dR h ds items.toList:=by
 constructor
 ·intro x;unfold dS at x;exact x
 ·intro x;unfold dS;exact x
theorem cV{h:Heap}{vs:List Value}:dR h [] vs↔vs=[]:=by unfold dR;exact Iff.rfl
theorem bZ{h:Heap}{d:D}{ds:List D}{vs:List Value}:dR h (d::ds) vs↔∃v r,vs=v::r/\dS h d v/\dR h ds r:=by
 constructor
 ·intro x;unfold dR at x;exact x
 ·intro x;unfold dR;exact x
theorem lU{h:Heap}{a:Addr}{xs ys:Array Value}(x:h.IsTuple a xs)(y:h.IsTuple a ys):xs=ys:=by
 obtain⟨o,ho,_,n,hd⟩:=x;obtain⟨o',ho',_,n',hd'⟩:=y;obtain rfl:o=o':=Option.some.inj (ho.symm.trans ho');rw[hd] at hd';injection hd'
mutual
theorem dS.inj{h:Heap}:∀{x y:D}{v:Value},dS h x v->dS h y v->x=y
 |.int i,y,v,hx,hy=>by
  obtain⟨t,rfl⟩:=d4.mp hx;cases y with
  |int j=>obtain⟨u,e⟩:=d4.mp hy;cases e;rfl
  |tup ds=>obtain⟨a,its,e,_⟩:=dH.mp hy;cases e
  |_=>unfold dS at hy;exact hy.elim
 |.tup ds,y,v,hx,hy=>by
  obtain⟨a,its,rfl,t1,k1⟩:=dH.mp hx;cases y with
  |int j=>obtain⟨u,e⟩:=d4.mp hy;cases e
  |tup es=>
   obtain⟨b,its',e,t2,k2⟩:=dH.mp hy;cases e;rw[lU t2 t1] at k2;rw[dR.inj k1 k2]
  |_=>unfold dS at hy;exact hy.elim
 |.non,_,_,hx,_=>by unfold dS at hx;exact hx.elim
 |.bl _,_,_,hx,_=>by unfold dS at hx;exact hx.elim
 |.str _,_,_,hx,_=>by unfold dS at hx;exact hx.elim
 |.lst _,_,_,hx,_=>by unfold dS at hx;exact hx.elim
 |.obj _ _ _,_,_,hx,_=>by unfold dS at hx;exact hx.elim
 |.fn _ _,_,_,hx,_=>by unfold dS at hx;exact hx.elim
theorem dR.inj{h:Heap}:∀{xs ys:List D}{vs:List Value},dR h xs vs->dR h ys vs->xs=ys
 |[],ys,vs,hx,hy=>by
  cases ys with
  |nil=>rfl
  |cons y ys=>obtain⟨v,r,e,_⟩:=bZ.mp hy;rw[cV.mp hx] at e;cases e
 |x::xs,ys,vs,hx,hy=>by
  obtain⟨v,r,rfl,k1,t1⟩:=bZ.mp hx;cases ys with
  |nil=>cases cV.mp hy
  |cons y ys=>
   obtain⟨v',r',e,k2,t2⟩:=bZ.mp hy;cases e;rw[dS.inj k1 k2,dR.inj t1 t2]
end
theorem IsTuple.keepK{h h':Heap}{d a:Addr}{o:Obj}{es ep}{items:Array Value}(x:h.IsTuple a items)(ho:h.get? d=some o)(hd:o.data=.dict es ep)(hs:Heap.SameBut d h h'):h'.IsTuple a items:=by
 obtain⟨o',ho',hc,n,hd'⟩:=x;have hne:a≠d:=by
  rintro rfl
  obtain rfl:o'=o:=Option.some.inj (ho'.symm.trans ho);rw[hd] at hd';exact nomatch hd'
 exact⟨o',(hs.2 a hne).trans ho',hc,n,hd'⟩
mutual
theorem dS.keeps{h h':Heap}(k:∀a items,h.IsTuple a items->h'.IsTuple a items):∀{x:D}{v:Value},dS h x v->dS h' x v
 |.int i,v,hx=>d4.mpr (d4.mp hx)
 |.tup ds,v,hx=>by
  obtain⟨a,its,e,t,q⟩:=dH.mp hx;exact dH.mpr ⟨a,its,e,k _ _ t,dR.keeps k q⟩
 |.non,_,hx=>by unfold dS at hx;exact hx.elim
 |.bl _,_,hx=>by unfold dS at hx;exact hx.elim
 |.str _,_,hx=>by unfold dS at hx;exact hx.elim
 |.lst _,_,hx=>by unfold dS at hx;exact hx.elim
 |.obj _ _ _,_,hx=>by unfold dS at hx;exact hx.elim
 |.fn _ _,_,hx=>by unfold dS at hx;exact hx.elim
theorem dR.keeps{h h':Heap}(k:∀a items,h.IsTuple a items->h'.IsTuple a items):∀{xs:List D}{vs:List Value},dR h xs vs->dR h' xs vs
 |[],vs,hx=>cV.mpr (cV.mp hx)
 |x::xs,vs,hx=>by
  obtain⟨v,r,e,k1,t1⟩:=bZ.mp hx;exact bZ.mpr ⟨v,r,e,dS.keeps k k1,dR.keeps k t1⟩
end
section
variable{prog:Program}{w:World}{E:Value->Shared->Prop}
theorem wH{a:Addr}{s:Shared}{A:Around}{Q:Int->Shared->Prop}(hT:s.TypeIs (.ref a) "tuple")(hu:A.units<cLine)
  (body:wpAny (model prog w) A.in1 (Builtin.«tuple.__hash__» ⟨[.ref a],[]⟩) (λfin s'=>∃n t,fin=.done (.ret (.int n t))/\Q (reduceHash n) s') E s):wpAny (model prog w) A (pyHash (.ref a)) Q E s:=by
 unfold pyHash
 first|unfold pyHashByItsType|skip
 first|refine wpAny_bind (wpAny_cRoomFor_or (.inr hu) ?_)|skip
 refine wpAny_bind (wpAny_specialOf hT F.slot_tuple_hash.lookup ?_);show wpAny _ _ (if(some (Value.builtin "tuple.__hash__") == some Value.none)=true then _ else _) Q E s;rw[if_neg (by rw[beq_builtin_none];exact Bool.false_ne_true)]
 refine wpAny_bind (wpAny_specialOf hT F.slot_tuple_hash.lookup ?_);show wpAny _ _ (callSpecialIfBoundUnlessNone? (.ref a) "__hash__" _ >>= _) Q E s;refine wpAny_bind (wpAny_callSpecialIfBoundUnlessNone?_slot hT F.slot_tuple_hash (wpAny_call_entry F.slot_tuple_hash hT F.entry_tuple_hash (wpAny_mono body ?_ λ_ _ x=>x) (F.args_tuple_hash_1 _)))
 rintro fin s' ⟨n,t,rfl,h⟩
 refine⟨_,rfl,?_⟩;show wpAny _ _ (if(decide (-(2:Int) ^ 63<=n) && decide (n<2 ^ 63))=true then _ else _) Q E _;unfold reduceHash at h;by_cases hr:(decide (-(2:Int) ^ 63<=n) && decide (n<2 ^ 63))=true
 ·rw[if_pos hr];rw[if_pos hr] at h;exact wpAny_pure h
 ·rw[if_neg hr];rw[if_neg hr] at h;exact wpAny_bind (wpAny_rule (wpAny_pure h))
mutual
theorem uE:∀(k:D)(v:Value)(A:Around)(s:Shared)(Q:Int->Shared->Prop),dS s.heap k v->A.units+kJ k<cLine->Q (uF k) {s with toks:=s.toks+qj k}->wpAny (model prog w) A (pyHash v) Q E s
 |.int i,v,A,s,Q,x,hu,h=>by
  obtain⟨t,rfl⟩:=d4.mp x;exact wpAny_pyHash_int h
 |.tup ds,v,A,s,Q,x,hu,h=>by
  obtain⟨a,items,rfl,tu,ks⟩:=dH.mp x;obtain⟨o,ho,hc,n,hd⟩:=id tu;refine wH ⟨o,ho,hc⟩ (by omega) ?_
  show wpAny _ _ (Builtin.Tuple.tupleItemsOf (.ref a) >>= _) _ _ s;refine wpAny_bind (wpAny_tupleItemsOf ho hd ?_);refine wpAny_bind ?_;rw[←Array.forIn_toList];have hu':A.units+(dU ds+1)<cLine:=hu;refine nJ ds items.toList A.in1 s #[] _ ks (by show A.units+1+dU ds<cLine;omega) λb hb=>?_
  show wpAny _ _ (retInt (Builtin.Tuple.tupleHashOf b.toList)) _ _ _;rw[hb];refine wpAny_bind (wpAny_mkInt (wpAny_pure ⟨_,_,rfl,?_⟩));have h':Q (reduceHash (Builtin.Tuple.tupleHashOf (lB ds))) {s with toks:=s.toks+(ka ds+1)}:=h;simpa [Nat.add_assoc] using h'
 |.non,_,_,_,_,x,_,_=>by unfold dS at x;exact x.elim
 |.bl _,_,_,_,_,x,_,_=>by unfold dS at x;exact x.elim
 |.str _,_,_,_,_,x,_,_=>by unfold dS at x;exact x.elim
 |.lst _,_,_,_,_,x,_,_=>by unfold dS at x;exact x.elim
 |.obj _ _ _,_,_,_,_,x,_,_=>by unfold dS at x;exact x.elim
 |.fn _ _,_,_,_,_,x,_,_=>by unfold dS at x;exact x.elim
theorem nJ:∀(ds:List D)(vs:List Value)(A:Around)(s:Shared)(b:Array Int)(Q:Array Int->Shared->Prop),dR s.heap ds vs->A.units+dU ds<cLine->
  (∀b',b'.toList=b.toList++lB ds->Q b' {s with toks:=s.toks+ka ds})->
  wpAny (model prog w) A (forIn vs b λx r=>do let h ←pyHash x;pure PUnit.unit;pure (ForInStep.yield (r.push h))) Q E s
 |[],vs,A,s,b,Q,x,hu,h=>by
  rw[cV.mp x];exact wpAny_pure (h b (by simp[lB]))
 |d::ds,vs,A,s,b,Q,x,hu,h=>by
  obtain⟨v,r,rfl,k1,t1⟩:=bZ.mp x;have hu':A.units+max (kJ d) (dU ds)<cLine:=hu;rw[forIn_cons];refine wpAny_bind (wpAny_bind (uE d v A s _ k1 (by omega) ?_))
  refine wpAny_bind (wpAny_pure (wpAny_pure ?_));refine nJ ds r A {s with toks:=s.toks+qj d} _ Q t1 (by omega) λb' hb=>?_
  have:=h b' (by rw[hb];simp[lB])
  have e:s.toks+ka (d::ds)=s.toks+qj d+ka ds:=by show s.toks+(qj d+ka ds)=_;omega
  rw[e] at this;exact this
end
theorem dR.length{h:Heap}:∀{ds:List D}{vs:List Value},dR h ds vs->ds.length=vs.length
 |[],vs,x=>by rw[cV.mp x];rfl
 |d::ds,vs,x=>by obtain⟨v,r,e,_,t⟩:=bZ.mp x;rw[e,length_cons,length_cons,dR.length t]
mutual
theorem Ca:∀(x y:D)(v u:Value)(A:Around)(s:Shared),dS s.heap x v->dS s.heap y u->A.units+kJ x<cLine->A.units+kJ y<cLine->EqAt A s v u (decide (x=y))
 |.int i,y,v,u,A,s,hx,hy,h1,h2=>by
  obtain⟨t,rfl⟩:=d4.mp hx;cases y with
  |int j=>
   obtain⟨t',rfl⟩:=d4.mp hy;have e:decide ((D.int i)=D.int j)=(i == j):=by
    rw[Bool.eq_iff_iff,beq_iff_eq,decide_eq_true_eq];exact⟨λz=>by injection z,λz=>by rw[z]⟩
   rw[e];exact EqAt.int_int i t j t'
  |tup es=>
   obtain⟨b,its,rfl,tu,_⟩:=dH.mp hy;rw[decide_eq_false (λz=>by cases z)]
   exact EqAt.int_tuple i t tu (by omega)
  |_=>unfold dS at hy;exact hy.elim
 |.tup ds,y,v,u,A,s,hx,hy,h1,h2=>by
  obtain⟨a,its,rfl,tu,ks⟩:=dH.mp hx;have h1':A.units+(dU ds+1)<cLine:=h1;cases y with
  |int j=>
   obtain⟨t',rfl⟩:=d4.mp hy;rw[decide_eq_false (λz=>by cases z)]
   exact EqAt.tuple_int j t' tu (by omega)
  |tup es=>
   obtain⟨b,its2,rfl,tu2,ks2⟩:=dH.mp hy;have h2':A.units+(dU es+1)<cLine:=h2;by_cases c:a=b
   ·subst c;rw[lU tu2 tu] at ks2;rw[ks.inj ks2,decide_eq_true rfl];exact EqAt.same _
   ·have e:=RcAt.tuples tu tu2 (A:=A) (by omega) (e:=λj=>decide (ds[j]?=es[j]?)) λj l1 l2=>by
     have q:=xU ds es its.toList its2.toList A.in1 s ks ks2 (by show A.units+1+_<_;omega) (by show A.units+1+_<_;omega) j (by simpa using l1) (by simpa using l2)
     simpa using q
    refine EqAt.of_refs c ?_;have l1:ds.length=its.size:=by rw[dR.length ks,length_toList]
    have l2:es.length=its2.size:=by rw[dR.length ks2,length_toList]
    have eb:((List.range (min its.size its2.size)).all (λj=>decide (ds[j]?=es[j]?)) && its.size == its2.size)=decide (D.tup ds=D.tup es):=by
     rw[Bool.eq_iff_iff,Bool.and_eq_true,all_eq_true,beq_iff_eq,decide_eq_true_eq];constructor
     ·rintro ⟨q1,q2⟩
      rw[show ds=es from List.ext_getElem? λj=>by
       by_cases hj:j<its.size
       ·exact of_decide_eq_true (q1 j (mem_range.mpr (by omega)))
       ·rw[getElem?_eq_none (by omega),getElem?_eq_none (by omega)]]
     ·intro z;injection z with z;subst z;exact⟨λj _=>decide_eq_true rfl,by omega⟩
    rw[eb] at e;exact e
  |_=>unfold dS at hy;exact hy.elim
 |.non,_,_,_,_,_,x,_,_,_=>by unfold dS at x;exact x.elim
 |.bl _,_,_,_,_,_,x,_,_,_=>by unfold dS at x;exact x.elim
 |.str _,_,_,_,_,_,x,_,_,_=>by unfold dS at x;exact x.elim
 |.lst _,_,_,_,_,_,x,_,_,_=>by unfold dS at x;exact x.elim
 |.obj _ _ _,_,_,_,_,_,x,_,_,_=>by unfold dS at x;exact x.elim
 |.fn _ _,_,_,_,_,_,x,_,_,_=>by unfold dS at x;exact x.elim
theorem xU:∀(ds es:List D)(vs us:List Value)(A:Around)(s:Shared),dR s.heap ds vs->dR s.heap es us->A.units+dU ds<cLine->A.units+dU es<cLine->∀(j:Nat)(h1:j<vs.length)(h2:j<us.length),EqAt A s vs[j] us[j] (decide (ds[j]?=es[j]?))
 |[],es,vs,us,A,s,x,y,hu1,hu2,j,h1,h2=>by rw[cV.mp x] at h1;cases h1
 |d::ds,[],vs,us,A,s,x,y,hu1,hu2,j,h1,h2=>by rw[cV.mp y] at h2;cases h2
 |d::ds,e::es,vs,us,A,s,x,y,hu1,hu2,j,h1,h2=>by
  obtain⟨v,r,rfl,k1,t1⟩:=bZ.mp x;obtain⟨u,q,rfl,k2,t2⟩:=bZ.mp y;have hu1':A.units+max (kJ d) (dU ds)<cLine:=hu1;have hu2':A.units+max (kJ e) (dU es)<cLine:=hu2;cases j with
  |zero=>
   have z:=Ca d e v u A s k1 k2 (by omega) (by omega)
   have ee:decide ((d::ds)[0]?=(e::es)[0]?)=decide (d=e):=by
    rw[Bool.eq_iff_iff,decide_eq_true_eq,decide_eq_true_eq];exact⟨λz=>Option.some.inj z,λz=>congrArg some z⟩
   rw[ee];exact z
  |succ j=>
   have z:=xU ds es r q A s t1 t2 (by omega) (by omega) j (by simpa using h1) (by simpa using h2)
   simpa using z
end
mutual
theorem pJ:∀(k:D)(v:Value)(n:Nat)(A:Around)(s:Shared)(Q:Bool->Shared->Prop),dS s.heap k v->kJ k<=n->Q true s->wpAny (model prog w) A (eqIsQuiet n v) Q E s
 |.int i,v,n,A,s,Q,x,hn,h=>by
  obtain⟨t,rfl⟩:=d4.mp x;rw[eqIsQuiet_byValue n (v:=.int i t) rfl];exact wpAny_pure h
 |.tup ds,v,n,A,s,Q,x,hn,h=>by
  obtain⟨a,items,rfl,tu,ks⟩:=dH.mp x;obtain⟨o,ho,hc,m,hd⟩:=id tu;have hn':dU ds+1<=n:=hn;cases n with
  |zero=>omega
  |succ n=>
   have hT:s.TypeIs (.ref a) "tuple" := ⟨o,ho,hc⟩;unfold eqIsQuiet;refine wpAny_bind (wpAny_specialOf hT F.slot_tuple_eq.lookup ?_);show wpAny _ _ (isInstance (.ref a) (.type "tuple") >>= _) _ _ s;refine wpAny_bind (wpAny_isInstance hT isSubtype_tuple_tuple ?_);simp only[Bool.not_true,Bool.false_eq_true,if_false];refine wpAny_bind (wpAny_seqItems ho hd ?_);refine wpAny_bind ?_;show wpAny _ _ (forIn items _ _) _ _ s;rw[←Array.forIn_toList];refine wpAny_forIn_list _ (λrest r s'=>r.1=none/\s'=s/\∃ds',dR s.heap ds' rest/\dU ds'<=n/\∀d∈ds',d∈ds) _ ?_ ?_ _ _ ⟨rfl,rfl,ds,ks,by omega,λ_ z=>z⟩
   ·rintro v rest r s' ⟨hr,rfl,ds',hall,hdep,hsub⟩
    cases ds' with
    |nil=>cases cV.mp hall
    |cons d ds'=>
     obtain⟨v',r',e,k1,t1⟩:=bZ.mp hall;cases e;have hd1:max (kJ d) (dU ds')<=n:=hdep;refine wpAny_bind (pI ds d (hsub d mem_cons_self) v n A s' _ k1 (by omega) ?_)
     simp only[Bool.not_true,Bool.false_eq_true,if_false];exact wpAny_pure ⟨rfl,rfl,ds',t1,by omega,λz hz=>hsub z (mem_cons_of_mem _ hz)⟩
   ·rintro ⟨r1,r2⟩ s' ⟨hr,rfl,_⟩
    simp only at hr;subst hr;exact wpAny_pure h
 |.non,_,_,_,_,_,x,_,_=>by unfold dS at x;exact x.elim
 |.bl _,_,_,_,_,_,x,_,_=>by unfold dS at x;exact x.elim
 |.str _,_,_,_,_,_,x,_,_=>by unfold dS at x;exact x.elim
 |.lst _,_,_,_,_,_,x,_,_=>by unfold dS at x;exact x.elim
 |.obj _ _ _,_,_,_,_,_,x,_,_=>by unfold dS at x;exact x.elim
 |.fn _ _,_,_,_,_,_,x,_,_=>by unfold dS at x;exact x.elim
theorem pI:∀(ds:List D)(d:D),d∈ds->∀(v:Value)(n:Nat)(A:Around)(s:Shared)(Q:Bool->Shared->Prop),dS s.heap d v->kJ d<=n->Q true s->wpAny (model prog w) A (eqIsQuiet n v) Q E s
 |[],d,hd,_,_,_,_,_,_,_,_=>nomatch hd
 |e::ds,d,hd,v,n,A,s,Q,x,hn,h=>by
  by_cases c:d=e
  ·exact pJ e v n A s Q (c▸x) (c▸hn) h
  ·exact pI ds d ((mem_cons.mp hd).resolve_left c) v n A s Q x hn h
end
end
noncomputable def j5(prog:Program)(w:World):HeapKind prog w D where
 is:=λh d a=>dS h d (.ref a)/\kJ d<=6
 hash:=uF
 draws:=qj
 room:=λA=>A.units+6<cLine
 inj:=λhx hy=>hx.1.inj hy.1
 keeps:=λx ho hd hs=>⟨x.1.keeps λa items t=>IsTuple.keepK t ho hd hs,x.2⟩
 pyHash:=λhu hk h=>uE _ _ _ _ _ hk.1 (by have:=hk.2;omega) h
 eqBool:=λhu hx hy h=>Ca _ _ _ _ _ _ hx.1 hy.1 (by have:=hx.2;omega) (by have:=hy.2;omega) _ _ _ _ h
 quiet:=λhk h=>pJ _ _ _ _ _ _ hk.1 (by have:=hk.2;omega) h
def fU(a:Addr)(xs:List (D×Addr×Value))(h:Heap):Prop:=((a == sysModules)=false/\xs.length<=sizeLine/\(xs.map (·.1)).Nodup)/\∃o es ep,h.get? a=some o/\o.ExactDict/\o.data=.dict es ep/\es.toList=xs.map λx=>(⟨uF x.1,.ref x.2.1,x.2.2⟩:DictEntry)
theorem fU.stay{a:Addr}{xs:List (D×Addr×Value)}{h h':Heap}(x:fU a xs h)(k:∀o,h.get? a=some o->h'.get? a=some o):fU a xs h':=by
 obtain⟨x1,o,es,ep,e,r⟩:=x;exact⟨x1,o,es,ep,k o e,r⟩
end L3
namespace L2
open PySem PySem.Spec PyProof.Rows
section
variable{X:Cx}{tg:Expr}
def L4(K:Frag)(tl:TE):TI:=λσ H R=>tl σ H λx H1=>∃a,x=.ref a/\(((∃xs,jE K H1 a xs)/\R (Kv K a) H1)\/((∃xs,jP K H1 a xs)/\R (Ku K a) H1))
theorem G4{l:Expr}{tl:TE}(hl:PE X l tl):PI X tg l (L4 X.K tl):=by
 intro pins s σ H R I h;refine bW (hl pins s σ H _ I h) λv s1 ⟨x,H1,I1,r1,a,e,q1⟩=>?_;subst e;cases r1;have f1:∀b∈[s1.heap.objs.size],FpOk X pins H1 b:=λb hb=>by
  rw[mem_singleton.mp hb];exact I1.fpOk (le_refl _) (I1.hok.fresh (le_refl _))
 rcases q1 with⟨⟨xs,hq⟩,q⟩|⟨⟨xs,hq⟩,q⟩
 ·obtain⟨its,rv,p,hz⟩:=I1.list hq;exact wpAny_pyIter_list p.isList ⟨s1.heap.objs.size,[s1.heap.objs.size],_,_,H1,rfl,I1.kept (t':=s1.toks) (λb o e=>get?_push_of_some _ e),yr a _,⟨_,get?_push_size _ rfl,rfl,rfl⟩,f1,q⟩
 ·obtain⟨its,rv,p,hz⟩:=I1.tuple hq;exact wpAny_pyIter_tuple (show s1.heap.IsTuple a its.toArray from p) ⟨s1.heap.objs.size,[s1.heap.objs.size],_,_,H1,rfl,I1.kept (t':=s1.toks) (λb o e=>get?_push_of_some _ e),vq a _,⟨_,get?_push_size _ rfl,rfl,rfl⟩,f1,q⟩
end
def sk(scope:Scope)(env:PySem.Env):List (Str×Addr):=scope.names.foldl (λcs x=>if x.2 == .free then(x.1,(env.cells.lookup x.1).getD 0)::cs else cs) []
def d5(sc psc:Scope)(vars:List Str):Bool:=
 (sc.kind == .function) && sc.names.all λy=>(sc.names.lookup y.1 == some y.2) && (match y.2 with
  |.local=>vars.contains y.1
  |.cell=>false
  |.free=>psc.names.lookup y.1 == some .cell || psc.names.lookup y.1 == some .free
  |_=>true)
def my(N vars:List Str)(js:List Nat):Bool:=(List.range N.length).all λi=>js.contains i || !(vars.contains (N.getD i (Str.ofString "")))
def eD(js:List Nat)(σ:St):St:=js.foldl (λσ j=>σ.set j none) σ
theorem j0(js:List Nat):∀σ:St,(eD js σ).length=σ.length:=by
 induction js with
 |nil=>intro σ;rfl
 |cons j js ih=>intro σ;show(eD js (σ.set j none)).length=_;rw[ih,length_set]
theorem uI(js:List Nat):∀(σ:St)(i:Nat)(v:V),(eD js σ)[i]?=some (some v)->i∉js/\σ[i]?=some (some v):=by
 induction js with
 |nil=>intro σ i v h;exact⟨by simp,h⟩
 |cons j js ih=>
  intro σ i v h;obtain⟨h1,h2⟩:=ih (σ.set j none) i v h;by_cases hj:j=i
  ·subst hj;by_cases hl:j<σ.length
   ·rw[getElem?_set_self hl] at h2;cases h2
   ·rw[getElem?_eq_none (by rw[length_set];omega)] at h2;cases h2
  ·rw[getElem?_set_ne hj] at h2;exact⟨by simp[h1,Ne.symm hj],h2⟩
section
variable{sc psc:Scope}{vars:List Str}
theorem nZ(h:d5 sc psc vars=true):sc.kind=.function:=by
 unfold d5 at h;exact eq_of_beq (Bool.and_eq_true_iff.mp h).1
theorem lI(h:d5 sc psc vars=true):∀y∈sc.names,sc.names.lookup y.1=some y.2/\(y.2=.local->y.1∈vars)/\y.2≠.cell/\(y.2=.free->psc.names.lookup y.1=some .cell\/psc.names.lookup y.1=some .free):=by
 intro y hy;unfold d5 at h;have h2:=all_eq_true.mp (Bool.and_eq_true_iff.mp h).2 y hy;obtain⟨h3,h4⟩:=Bool.and_eq_true_iff.mp h2;refine⟨eq_of_beq h3,λe=>?_,λe=>?_,λe=>?_⟩
 ·rw[e] at h4;exact List.contains_iff_mem.mp h4
 ·rw[e] at h4;cases h4
 ·rw[e] at h4;rcases Bool.or_eq_true_iff.mp h4 with z|z
  ·exact .inl (eq_of_beq z)
  ·exact .inr (eq_of_beq z)
theorem dv{α β:Type}[BEq α][LawfulBEq α]:∀{l:List (α×β)}{x:α}{v:β},l.lookup x=some v->(x,v)∈l
 |[],_,_,h=>by cases h
 | (y,w)::l,x,v,h=>by
  rw[lookup_cons] at h;cases hb:x == y with
  |true=>
   rw[hb] at h;cases h;rw[eq_of_beq hb];exact mem_cons_self
  |false=>
   rw[hb] at h;exact mem_cons_of_mem _ (dv h)
end
theorem EJ(scope:Scope)(env:PySem.Env):∀(l:List (Str×NameKind))(acc:List (Str×Addr)),(∀p∈acc,env.cells.lookup p.1=some p.2)->(∀y∈l,y.2=.free->∃c,env.cells.lookup y.1=some c)->
  ∀p∈l.foldl (λcs x=>if x.2 == .free then(x.1,(env.cells.lookup x.1).getD 0)::cs else cs) acc,env.cells.lookup p.1=some p.2:=by
 intro l
 induction l with
 |nil=>intro acc h _;exact h
 |cons y l ih=>
  intro acc h hf;rw[foldl_cons];refine ih _ ?_ λz hz=>hf z (mem_cons_of_mem _ hz);split
  ·rename_i hb;intro p hp;rcases mem_cons.mp hp with e|hp
   ·obtain⟨c,hc⟩:=hf y mem_cons_self (eq_of_beq hb);rw[e,hc];rfl
   ·exact h p hp
  ·exact h
theorem Co(scope:Scope)(env:PySem.Env):∀(l:List (Str×NameKind))(acc:List (Str×Addr))(x:Str),((x,NameKind.free)∈l\/∃c,(x,c)∈acc)->
  ∃c,(x,c)∈l.foldl (λcs x=>if x.2 == .free then(x.1,(env.cells.lookup x.1).getD 0)::cs else cs) acc:=by
 intro l
 induction l with
 |nil=>
  intro acc x h;rcases h with h|h
  ·cases h
  ·exact h
 |cons y l ih=>
  intro acc x h;rw[foldl_cons];refine ih _ x ?_;rcases h with h|⟨c,h⟩
  ·rcases mem_cons.mp h with e|h
   ·subst e;exact .inr ⟨_,by rw[if_pos (by rfl)];exact mem_cons_self⟩
   ·exact .inl h
  ·refine .inr ⟨c,?_⟩;split
   ·exact mem_cons_of_mem _ h
   ·exact h
theorem pj{scope:Scope}{env:PySem.Env}(hf:∀y∈scope.names,y.2=.free->∃c,env.cells.lookup y.1=some c):closureFor scope env=pure (sk scope env):=by
 have go:∀(l:List (Str×NameKind))(acc:List (Str×Addr)),(∀y∈l,y.2=.free->∃c,env.cells.lookup y.1=some c)->
   (forIn l acc λx cs=>do
    if x.2 == .free then pure (ForInStep.yield ((x.1,←cellOf env x.1)::cs)) else pure (ForInStep.yield cs):Sem (List (Str×Addr)))=
   pure (l.foldl (λcs x=>if x.2 == .free then(x.1,(env.cells.lookup x.1).getD 0)::cs else cs) acc):=by
  intro l
  induction l with
  |nil=>intro acc _;rfl
  |cons y l ih=>
   intro acc h;rw[forIn_cons,foldl_cons];cases hb:y.2 == NameKind.free with
   |true=>
    obtain⟨c,hc⟩:=h y mem_cons_self (eq_of_beq hb);have e1:cellOf env y.1=pure c:=by unfold cellOf;rw[hc]
    simp only[if_true,e1,pure_bind,hc,Option.getD_some];exact ih _ λz hz=>h z (mem_cons_of_mem _ hz)
   |false=>
    simp only[Bool.false_eq_true,if_false,pure_bind];exact ih _ λz hz=>h z (mem_cons_of_mem _ hz)
 have:=go scope.names [] hf;unfold closureFor;simpa [sk] using this
def fb(X:Cx)(scope:Scope)(fp:List Addr)(s:Shared)(H:Hp)(C:Addr):Cx:=
 {X with s₀:=s,H₀:=H,env:=compEnvC scope (sk scope X.env) C X.env,outer:=X.stack,ex:=fp,fn:=λ_=>false,pn:=[],xe:=λ_ _=>False}
theorem lR(f:Str->NameKind->NameKind):∀(l:List (Str×NameKind))(x:Str),(l.map λy=>(y.1,f y.1 y.2)).lookup x=(l.lookup x).map (f x)
 |[],_=>rfl
 | (n,k)::l,x=>by
  rw[map_cons,lookup_cons,lookup_cons];cases hb:x == n with
  |true=>rw[eq_of_beq hb];rfl
  |false=>exact lR f l x
theorem iH(scope:Scope)(env:PySem.Env)(x:Str):(relabel scope env).names.lookup x=(scope.names.lookup x).map λk=>if(k == NameKind.free && env.scope.kind == .function && env.kindOf x == some .cell)=true then NameKind.cell else k:=by
 rw[←lR (λn k=>if(k == NameKind.free && env.scope.kind == .function && env.kindOf n == some .cell)=true then NameKind.cell else k)];unfold relabel;dsimp only;congr 1;refine map_congr_left λy _=>?_;obtain⟨n,k⟩:=y;dsimp only;split <;> rfl
theorem hZ{scope psc:Scope}{env:PySem.Env}{vars:List Str}{x:Str}(hc:d5 scope psc vars=true)(h:(relabel scope env).names.lookup x=some .cell\/(relabel scope env).names.lookup x=some .free):scope.names.lookup x=some .free:=by
 rw[iH] at h;cases hl:scope.names.lookup x with
 |none=>rw[hl] at h;simp at h
 |some k=>
  obtain⟨_,h2,h3,_⟩:=lI hc _ (dv hl);rw[hl] at h;cases k with
  |free=>rfl
  |cell=>exact absurd rfl h3
  |_=>simp at h
theorem t6{scope psc:Scope}{env:PySem.Env}{vars:List Str}{x:Str}(hc:d5 scope psc vars=true)(h:qy (relabel scope env) x):
  (x∈vars)\/(scope.names.lookup x=some .free/\((relabel scope env).names.lookup x=some .cell\/(relabel scope env).names.lookup x=some .free)):=by
 rcases h with h|h|h
 ·rw[iH] at h;cases hl:scope.names.lookup x with
  |none=>rw[hl] at h;simp at h
  |some k=>
   obtain⟨_,h2,h3,_⟩:=lI hc _ (dv hl);rw[hl] at h;cases k with
   |«local»=>exact .inl (h2 rfl)
   |cell=>exact absurd rfl h3
   |free=>
    simp only[Option.map_some] at h;split at h <;> simp at h
   |_=>simp at h
 ·exact .inr ⟨hZ hc (.inl h),.inl h⟩
 ·exact .inr ⟨hZ hc (.inr h),.inr h⟩
theorem uV{scope psc:Scope}{env:PySem.Env}{vars:List Str}(hc:d5 scope psc vars=true)(hf:∀y∈scope.names,y.2=.free->∃c,env.cells.lookup y.1=some c):
  (∀x c,(sk scope env).lookup x=some c->env.cells.lookup x=some c)/\∀x,scope.names.lookup x=some .free->∃c,(sk scope env).lookup x=some c/\env.cells.lookup x=some c:=by
 have h1:∀x c,(sk scope env).lookup x=some c->env.cells.lookup x=some c:=λx c e=>EJ scope env scope.names [] (λ_ z=>nomatch z) hf (x,c) (dv e)
 refine⟨h1,λx e=>?_⟩;obtain⟨c,hm⟩:=Co scope env scope.names [] x (.inl (dv e));cases q:(sk scope env).lookup x with
 |some d=>exact⟨d,rfl,h1 x d q⟩
 |none=>
  have:=List.lookup_eq_none_iff.mp q _ hm;simp at this
section
variable{X:Cx}{pins:List (Addr×Obj)}{σ:St}{H:Hp}{s:Shared}{scope:Scope}{vars:List Str}{js:List Nat}{fp:List Addr}{C:Addr}{h₁:Heap}{tk:Nat}
theorem qk(I:ay X pins σ H s)(hc:d5 scope X.env.scope vars=true):∀y∈scope.names,y.2=.free->∃c,X.env.cells.lookup y.1=some c:=λy hy e=>by
 obtain⟨_,_,_,h⟩:=lI hc y hy;exact I.ok.has y.1 (h e)
theorem BK(I:ay X pins σ H s)(hc:d5 scope X.env.scope vars=true)(hj:my X.N vars js=true)(hC:C=s.heap.objs.size)(hfp:∀b∈fp,FpOk X pins H b)(hfo:∀b∈fp,b<s.heap.objs.size)
  {m:Str->Option Value} (hns:h₁.Ns C m) (keep:∀b o,s.heap.get? b=some o->h₁.get? b=some o):
  ay (fb X scope fp s H C) [] (eD js σ) H {s with heap:=h₁,toks:=tk}:=by
 have hf:=qk I hc;obtain⟨cl1,cl2⟩:=uV hc hf;have ok:(fb X scope fp s H C).Ok:=by
  refine⟨I.ok.mod,?_,I.ok.glob,I.ok.blt,le_of_eq hC.symm,λx y c h1 h2=>I.ok.inj x y c (cl1 x c h1) (cl1 y c h2),λx hx=>?_,(λx c z=>nomatch z),I.ok.hd,I.ok.frames,Or.inl rfl,λb hb=>?_,I.bs,le_trans I.ok.bsz I.sz,λb o e hb=>?_,λb hb z=>?_,I.stack,I.stkFree⟩
  ·show scope.kind=.function;exact nZ hc
  ·obtain⟨c,z,_⟩:=cl2 x (hZ hc hx);exact⟨c,z⟩
  ·obtain⟨_,_,_,_,f4,_⟩:=hfp b hb;refine⟨λz=>?_,λx c e=>f4 x c (cl1 x c e)⟩;have h1:=hfo b hb;have h2:b=C:=z;rw[h2,hC] at h1;exact lt_irrefl _ h1
  ·obtain⟨_,_,_,f3,_⟩:=hfp b hb;rcases f3 with z|z
   ·exact I.ok.noex b o e z
   ·exact absurd (lt_of_lt_of_le (lt_size (I.ok.bs b o e).1) z) (lt_irrefl _)
  ·obtain⟨_,f1,f2,_⟩:=hfp b hb;rcases mem_cons.mp (I.stkSub b z) with e|e
   ·exact f1 e
   ·exact f2 e
 refine⟨ok,rfl,I.bare,Un.kept keep,⟨m,hns,λi x v e1 e2 e3=>?_⟩,λx c e=>?_,?_,λx c e=>I.freeC x c (cl1 x c e),(λp hp=>nomatch hp),I.hok.kept keep,?_⟩
 ·obtain⟨nj,e2⟩:=uI js σ i v e2;rcases t6 hc e3 with hm|⟨ef,hk⟩
  ·exfalso;have hi:i<X.N.length:=(List.getElem?_eq_some_iff.mp e1).1;have hq:=all_eq_true.mp hj i (mem_range.mpr hi);rcases Bool.or_eq_true_iff.mp hq with z|z
   ·exact nj (List.contains_iff_mem.mp z)
   ·rw[List.getD_eq_getElem?_getD,show X.N[i]?=some x from e1] at z;have hm':vars.contains x=true:=List.contains_iff_mem.mpr hm;rw[Option.getD_some,hm'] at z;cases z
  ·obtain⟨c,z1,z2⟩:=cl2 x ef;obtain⟨m0,_,hl⟩:=I.loc;obtain⟨_,_,_,hp⟩:=lI hc _ (dv ef);have hv:qy X.env.scope x:=(hp rfl).elim (λz=>.inr (.inl z)) λz=>.inr (.inr z);obtain⟨u,r,l⟩:=hl i x v e1 e2 hv;refine⟨u,r,.inr ⟨hk,c,z1,?_⟩⟩;rcases l with⟨k,_⟩|⟨_,c',e,q⟩
   ·have k':X.env.scope.names.lookup x=some .local:=k;rcases hp rfl with z|z
    ·have z':X.env.scope.names.lookup x=some .cell:=z;rw[k'] at z';cases z'
    ·have z':X.env.scope.names.lookup x=some .free:=z;rw[k'] at z';cases z'
   ·rw[z2] at e;cases e;obtain⟨o,ho,hd⟩:=q;exact⟨o,keep _ o ho,hd⟩
 ·obtain⟨v,o,ho,hd⟩:=I.cell x c (cl1 x c e);exact⟨v,o,keep _ o ho,hd⟩
 ·exact I.hok.fresh (le_of_eq hC.symm)
 ·rw[j0];exact I.len
end
abbrev Fl:Value->Shared->Prop:=λ_ _=>False
theorem fl{α:Type}{M:Model}{A:Around}{t:Sem α}{Q Q':α->Shared->Prop}{E:Value->Shared->Prop}{s:Shared}(h:wpAny M A t Q Fl s)(k:∀a s,Q a s->Q' a s):wpAny M A t Q' E s:=wpAny_mono h k λ_ _ z=>z.elim
def y7(ifs:List Expr)(env:PySem.Env):Sem Bool:=forIn ifs true λc r=>if r=true then do let ok ←isTrue c env (eval c env);pure (ForInStep.yield ok) else pure (ForInStep.yield r)
theorem zR{prog:Program}{w:World}{A:Around}{R:Result->Shared->Prop}{s:Shared}{elt target iter:Expr}{ifs:List Expr}{scope:Scope}{pos:Pos}{it acc:Value}{env:PySem.Env}(Iv:Nat->Shared->Prop)
  (turn:∀n s,Iv n s->wpAny (model prog w) A (pyNext it) (λr s₁=>match r with
   |none=>R (.ok .next) s₁
   |some v=>wpAny (model prog w) A (letOwnedTupleGo target it v) (λ_ s₂=>wpAny (model prog w) A (assign target env v) (λ_ s₃=>wpAny (model prog w) A (y7 ifs env) (λok s₄=>
     if ok=true then wpAny (model prog w) A (eval elt env) (λx s₅=>wpAny (model prog w) A (call (.builtin "list.append") [acc,x]) (λ_ s₆=>∃m,m<n/\Iv m s₆) Fl s₅) Fl s₄
     else ∃m,m<n/\Iv m s₄) Fl s₃) Fl s₂) Fl s₁) Fl s)
  (n:Nat) (h:Iv n s):codeAny (model prog w) A (.compLoop (.ListComp elt [⟨target,iter,ifs,0⟩] scope pos) 0 it acc env) R s:=by
 refine codeAny_loop rfl Iv (λn s hI=>?_) n h;show wpAny _ A ((compTurn (.ListComp elt [⟨target,iter,ifs,0⟩] scope pos) 0 it acc env).onRaise _) _ _ s;refine wpAny_noted ?_;rw[compTurn_list];refine wpAny_bind (wpAny_standAt (wpAny_bind (fl (turn n s hI) λr s₁ h₁=>?_)));cases r with
 |none=>exact wpAny_pure h₁
 |some v=>
  refine wpAny_bind (fl h₁ λ_ s₂ h₂=>wpAny_bind (fl h₂ λ_ s₃ h₃=>wpAny_bind (fl h₃ λok s₄ h₄=>?_)));cases ok with
  |false=>exact wpAny_pure ⟨rfl,h₄⟩
  |true=>exact wpAny_bind (wpAny_bind (fl h₄ λx s₅ h₅=>wpAny_bind (fl h₅ λ_ s₆ h₆=>wpAny_pure (wpAny_pure ⟨rfl,h₆⟩))))
def JG(X:Cx)(ifs:List Expr)(t:TT):Prop:=∀(pins:List (Addr×Obj))(s:Shared)(σ:St)(H:Hp)(Q:Bool->Hp->Prop),ay X pins σ H s->t σ H Q->wpAny (model X.prog X.w) X.A (y7 ifs X.env) (TP X pins σ Q) X.xe s
theorem Dt{X:Cx}{c:Expr}{t:TT}(h:PT X c t):JG X [c] t:=λpins s σ H Q I q=>wpAny_tests_one (h pins s σ H Q I q)
def FF(J:It)(g:TG)(tt:TT)(te:TE)(a:Addr)(Q:VK)(W:Nat->Nat->St->List V->Hp->Prop):Prop:=∀i m σ ys H,W i m σ ys H->H a=some (.lst ys)/\
 ((J.stop i H/\Q (.ref a) H)\/(J.go i H/\∀x H1,J.yld i H x H1->g x σ H1 λσ2 H2=>tt σ2 H2 λb H3=>
  if b=true then te σ2 H3 λy H4=>H4 a=some (.lst ys)/\ys.length<sizeLine/\∃m',m'<m/\W (i+1) m' σ2 (ys++[y]) (aS H4 a (.lst (ys++[y]))) else ∃m',m'<m/\W (i+1) m' σ2 ys H3))
def Fb(js:List Nat)(wi:TI)(g:TG)(tt:TT)(te:TE):TE:=λσ H Q=>wi σ H λJ H1=>∀a,H1 a=none->∃W,(∃m,W 0 m (eD js σ) [] (aS H1 a (.lst [])))/\FF J g tt te a Q W
section
variable{X:Cx}{scope:Scope}{vars:List Str}{js:List Nat}{elt tg iter:Expr}{ifs:List Expr}{pos:Pos}{wi:TI}{g:TG}{tt:TT}{te:TE}
theorem zS{pins:List (Addr×Obj)}{s:Shared}{σ:St}{H:Hp}{it:Addr}{fp:List Addr}{tn:Nat->Heap->Prop}{J:It}{Q:VK}{E:Value->Shared->Prop}{RR:Value->Addr->Result->Shared->Prop}(hc:d5 scope X.env.scope vars=true)(hj:my X.N vars js=true)(hcalm:X.calm=true)
  (hg:∀fp s H C,PG (fb X scope fp s H C) tg g) (ht:∀fp s H C,JG (fb X scope fp s H C) ifs tt) (he:∀fp s H C,PE (fb X scope fp s H C) elt te)
  (I:ay X pins σ H s) (T:zZ X.prog X.w X.K tg J fp it tn) (st:tn 0 s.heap) (hfp:∀b∈fp,FpOk X pins H b) (q:∀a,H a=none->∃W,(∃m,W 0 m (eD js σ) [] (aS H a (.lst [])))/\FF J g tt te a Q W)
  (fin:∀a C H' s' m,ay X pins σ H' s'->s'.heap.Ns C m->H' C=none->C≠X.env.locals->X.s₀.heap.objs.size<=C->(∀x c,X.env.cells.lookup x=some c->c≠C)->(∀p∈X.pn++pins,p.1≠C)->Q (.ref a) H'->RR (.ref a) C (.ok .next) s'):
  wpAny (model X.prog X.w) X.A (newList []) (λacc s₃=>wpAny (model X.prog X.w) X.A (newFunctionEnv scope X.env.globals (sk scope X.env) [] X.env.qual none .none (some X.env)) (λcenv s₄=>
   codeAny (model X.prog X.w) X.A (.compStart (.ListComp elt [⟨tg,iter,ifs,0⟩] scope pos) 0 (.ref it) acc {cenv with scope:=relabel scope X.env}) (RR acc cenv.locals) s₄) E s₃) E s:=by
 have nocell:∀y∈scope.names,y.2≠.cell:=λy hy=>(lI hc y hy).2.2.1;refine wpAny_newObj_type (wpAny_newFunctionEnv nocell (by intro y hy;simp at hy) (λh₁ hns hsb=>?_) (nZ hc))
 dsimp only at hns hsb ⊢;generalize hA:s.heap.objs.size=a at *;have fa:H a=none:=by rw[←hA];exact I.fresh
 obtain⟨W,⟨m0,w0⟩,hW⟩:=q a fa;have I3:ay X pins σ (aS H a (.lst [])) {s with heap:=s.heap.push {cls:=.type "list",data:=.seq ([]:List Value).toArray}}:=by
  rw[←hA];exact I.lnew (t':=s.toks) (ys:=[]) (its:=[]) .nil (zero_le _)
 generalize hB:s.heap.push {cls:=.type "list",dict:=none,data:=.seq ([]:List Value).toArray}=hp at *;have szp:hp.objs.size=a+1:=by rw[←hB,size_push,hA]
 have keep:∀b o,hp.get? b=some o->h₁.get? b=some o:=λb o e=>(hsb.2 b (ne_of_lt (lt_size e))).trans (get?_push_of_some _ e);have up:∀b o,s.heap.get? b=some o->hp.get? b=some o:=λb o e=>by rw[←hB];exact get?_push_of_some _ e
 have lo:∀b∈fp,b<a:=λb hb=>by
  obtain⟨o,e,_⟩:=T.obj 0 _ st b hb;rw[←hA];exact lt_size e
 have hfp3:∀b∈fp,FpOk X pins (aS H a (.lst [])) b:=λb hb=>⟨by rw[ak (ne_of_lt (lo b hb))];exact(hfp b hb).1,(hfp b hb).2⟩
 have I4:=BK (tk:=s.toks+([]:List (Str×Value)).length) I3 hc hj rfl hfp3 (λb hb=>by show b<hp.objs.size;rw[szp];exact Nat.lt_succ_of_lt (lo b hb)) hns keep
 generalize hX:fb X scope fp {s with heap:=hp} (aS H a (.lst [])) hp.objs.size=X' at I4;have eP:X'.prog=X.prog:=by rw[←hX];rfl
 have eW:X'.w=X.w:=by rw[←hX];rfl
 have eK:X'.K=X.K:=by rw[←hX];rfl
 have eA:X'.A=X.A:=by rw[←hX];rfl
 have eC:X'.calm=true:=by rw[←hX];exact hcalm
 have eL:X'.env.locals=hp.objs.size:=by rw[←hX];rfl
 have eE:X'.env=compEnvC scope (sk scope X.env) hp.objs.size X.env:=by rw[←hX];rfl
 have eX:X'.ex=fp:=by rw[←hX];rfl
 have exe:X'.xe=Fl:=by rw[←hX];rfl
 have epn:X'.pn=[]:=by rw[←hX];rfl
 have hg':PG X' tg g:=by rw[←hX];exact hg _ _ _ _
 have ht':JG X' ifs tt:=by rw[←hX];exact ht _ _ _ _
 have he':PE X' elt te:=by rw[←hX];exact he _ _ _ _
 have stat:∀{H':Hp},(∀b∈fp,H' b=none)->∀b∈fp,FpOk X' [] H' b:=λhn b hb=>by
  have hb':b∈X'.ex:=by rw[eX];exact hb
  exact⟨hn b hb,(I4.ok.exf b hb').1,I4.ok.exfs b hb',.inl hb',(I4.ok.exf b hb').2,λp hp=>by rw[epn] at hp;cases hp⟩
 have back:∀{σ':St}{H':Hp}{s':Shared},ay X' [] σ' H' s'->Q (.ref a) H'->RR (.ref a) hp.objs.size (.ok .next) s':=λ{σ' H' s'} J qf=>by
  obtain⟨m,hn,_⟩:=J.loc;rw[eL] at hn;have hfree:=J.free;rw[eL] at hfree;have jos:=J.os;have jbase:=J.base;have jhok:=J.hok;rw[←hX] at jos jbase jhok;refine fin a _ H' s' m (I3.call' (ch:=fp) jos jbase jhok J.bare λb hb=>⟨(hfp b hb).2.2.2.1,(hfp b hb).2.1,(hfp b hb).2.2.2.2.1,(hfp b hb).2.2.2.2.2⟩) hn hfree (ne_of_gt I3.lt) I3.sz (λx c e z=>?_) (λp hp' z=>?_) qf
  ·obtain⟨v,o,ho,_⟩:=I3.cell x c e;have:=lt_size ho;rw[z] at this;exact lt_irrefl _ this
  ·have:=lt_size (I3.pin p hp').1;rw[z] at this;exact lt_irrefl _ this
 have st1:tn 0 h₁:=T.keep 0 _ _ st λb hb o e=>keep b o (up b o e);have loop:codeAny (model X.prog X.w) X.A (.compLoop (.ListComp elt [⟨tg,iter,ifs,0⟩] scope pos) 0 (.ref it) (.ref a) X'.env) (RR (.ref a) hp.objs.size) {s with heap:=h₁,toks:=s.toks+([]:List (Str×Value)).length}:=by
  refine zR (λn s'=>∃i σ' ys H',ay X' [] σ' H' s'/\tn i s'.heap/\(∀b∈fp,H' b=none)/\W i n σ' ys H') ?_ m0 ⟨0,_,[],_,I4,st1,λb hb=>(hfp3 b hb).1,w0⟩
  rintro n s3 ⟨i,σ3,ys,H3,J3,st3,fr3,w3⟩
  obtain⟨ha,hw⟩:=hW i n σ3 ys H3 w3;rcases hw with⟨stop,qn⟩|⟨go,step⟩
  ·have z:=T.done X' eP eW eK eC i [] s3 σ3 H3 Fl J3 (stat fr3) st3 stop;rw[eA] at z;refine bW z λr s4 ⟨hr,J4⟩=>?_;subst hr;exact back J4 qn
  ·have z:=T.item X' eP eW eK eC i [] s3 σ3 H3 Fl J3 (stat fr3) st3 go;rw[eA] at z;refine bW z λr s4 ⟨u,hr,h4⟩=>?_;subst hr;refine bW h4 λ_ s5 ⟨x,H5,J5,r5,y5,st5,fr5⟩=>?_;have J5':=J5.pinned (stat fr5) (T.obj _ _ st5);have z5:=hg' _ s5 σ3 H5 x u _ J5' r5 (step x H5 y5);rw[eP,eW,eA,exe] at z5;refine bW z5 λ_ s6 ⟨σ6,H6,J6,q6⟩=>?_;have z6:=ht' _ s6 σ6 H6 _ J6 q6;rw[eP,eW,eA,exe] at z6;refine bW z6 λok s7 ⟨H7,J7,q7⟩=>?_;have again:∀{σ8:St}{H8:Hp}{s8:Shared}{ys8:List V}{m':Nat},ay X' ([]++ng fp s5.heap) σ8 H8 s8->m'<n->W (i+1) m' σ8 ys8 H8->∃m,m<n/\∃i σ' ys H',ay X' [] σ' H' s8/\tn i s8.heap/\(∀b∈fp,H' b=none)/\W i m σ' ys H':=λ{σ8 H8 s8 ys8 m'} J8 hm w8=>by
    refine⟨m',hm,i+1,σ8,ys8,H8,J8.unpinned,T.keep _ _ _ st5 λb hb o e=>(J8.pin (b,o) (mem_append_right _ (mem_append_right _ (i5 hb e)))).1,λb hb=>?_,w8⟩;obtain⟨o,e,d⟩:=T.obj _ _ st5 b hb;exact(J8.pin (b,o) (mem_append_right _ (mem_append_right _ (i5 hb e)))).2.1
   cases ok with
   |false=>
    rw[if_neg Bool.false_ne_true] at q7 ⊢;obtain⟨m',hm,w7⟩:=q7;exact again J7 hm w7
   |true=>
    rw[if_pos rfl] at q7 ⊢;have z7:=he' _ s7 σ6 H7 _ J7 q7;rw[eP,eW,eA,exe] at z7;refine bW z7 λv s8 ⟨y,H8,J8,r8,h8,hl8,m',hm,w8⟩=>?_;have z8:=pS _ s8 σ6 H8 (.ref a) [y] (.ref a) [v] (λ_ H9=>H9=aS H8 a (.lst (ys++[y]))) J8 rfl (.cons r8 .nil) ⟨a,ys,y,rfl,rfl,h8,hl8,rfl⟩;rw[eP,eW,eA,exe] at z8;refine bW z8 λ_ s9 ⟨_,H9,J9,_,q9⟩=>?_;subst q9;exact again J9 hm w8
 rw[eE] at loop;exact codeAny_compStart_list loop (T.self _ 0 _ _ _ st1 loop)
theorem Dz(hc:d5 scope X.env.scope vars=true)(hj:my X.N vars js=true)(hcalm:X.calm=true)(hi:PI X tg iter wi)
  (hg:∀fp s H C,PG (fb X scope fp s H C) tg g) (ht:∀fp s H C,JG (fb X scope fp s H C) ifs tt) (he:∀fp s H C,PE (fb X scope fp s H C) elt te) (hs:∀x,foldedSetIterable iter X.env x=pure x:=by intro _;rfl):
  PE X (.ListComp elt [⟨tg,iter,ifs,0⟩] scope pos) (Fb js wi g tt te):=by
 intro pins s σ H Q I h;rw[eval_ListComp];refine wpAny_comprehension_free (use:=none) rfl hs (pj (qk I hc)) (nZ hc) (λy hy e=>by rw[(lI hc y hy).1,e]) (bW (hi pins s σ H _ I h) λv s1 h1=>bW h1 λitv s2 h2=>?_)
 obtain⟨it,fp,tn,J,H2,e,I2,T,st2,f2,q⟩:=h2;subst e;refine zS (RR:=λacc C=>compPost (model X.prog X.w) X.A X.xe none (EP X pins σ Q) acc C) hc hj hcalm hg ht he I2 T st2 f2 q ?_;intro a C H' s' m J' hn hC hL hS hcell hpin q';exact⟨m,hn,λh' sb=>⟨.ref a,H',J'.turned (t':=s'.toks) (λb o hb e=>(sb.2 b hb).trans e) hC hL (.inr hS) hcell hpin,rfl,q'⟩⟩
end
section
variable{X:Cx}{pins:List (Addr×Obj)}{σ:St}{H:Hp}{s:Shared}{l:Addr}{xs:List V}
def Ik(K:Frag):R2:=λx y H Q=>∃l b xs zs,x=.ref l/\y=.ref b/\jE K H l xs/\jE K H b zs/\xs.length+zs.length<=sizeLine/\∀p,H p=none->Q (.ref p) (aS H p (.lst (xs++zs)))
theorem DR:ft X (binaryOp .Add) (Ik X.K):=λpins s σ H x y v u Q I rx ry ⟨l,b,xs,zs,ex,ey,hH,hB,hz,q⟩=>by
 subst ex ey;cases rx;cases ry;obtain⟨i1,r1,p1,_⟩:=I.list hH;obtain⟨i2,r2,p2,_⟩:=I.list hB;obtain⟨⟨c1,d1,t1,s1⟩,o1,k1,n1,g1⟩:=p1.isList;obtain⟨⟨c2,d2,t2,s2⟩,o2,k2,n2,g2⟩:=p2.isList;simp only at k1 g1 k2 g2;subst k1 g1 k2 g2;have l1:=r1.length;have l2:=r2.length;have ea:i1.toArray++i2.toArray=(i1++i2).toArray:=by simp
 refine concat_meets ⟨_,o1,rfl⟩ ⟨_,o2,rfl⟩ noFill_list_add seq_list_add PySem.F.slot_list_add PySem.F.entry_list_add (PySem.F.args_list_add_2 _ _) (list_addW l b _ _ n1 n2 d1 d2 s1 s2 (by rw[size_toArray,size_toArray,←l1,←l2];exact hz)) ⟨o1,o2,?_⟩
 rw[ea];exact⟨.ref _,_,I.lnew (t':=s.toks) (r1.append r2) (by rw[length_append];exact hz),rfl,q _ I.fresh⟩
theorem B3:ft X (binaryOp .Add) (λx y H Q=>∃a b ys,x=.ref a/\y=.ref b/\jP X.K H a []/\jP X.K H b ys/\Q (.ref b) H):=λpins s σ H x y v u Q I rx ry ⟨a,b,ys,ex,ey,ha,hb,q⟩=>by
 subst ex ey;cases rx;cases ry;obtain⟨i1,r1,⟨⟨c1,d1,t1,s1⟩,o1,k1,n1,g1⟩,_⟩:=I.tuple ha;obtain⟨i2,r2,⟨⟨c2,d2,t2,s2⟩,o2,k2,n2,g2⟩,_⟩:=I.tuple hb;cases r1;simp only at k1 g1 k2 g2;subst k1 g1 k2 g2;exact concat_meets ⟨_,o1,rfl⟩ ⟨_,o2,rfl⟩ noFill_tuple_add seq_tuple_add PySem.F.slot_tuple_add PySem.F.entry_tuple_add (PySem.F.args_tuple_add_2 _ _)
  (tuple_addW0 a b _ _ n1 n2 d1 d2 s1 s2 (by rfl)) ⟨o1,o2,⟨.ref b,H,I,rfl,q⟩⟩
theorem C4(l:Addr)(items:Array Value)(n:Nat)(b:Addr)(items2:Array Value)(n2:Nat)(dd:Option Addr)(sl:Array (Option Value))(h0:¬(!items.isEmpty && Builtin.List.listTooLong (items.size+items2.size))=true)(h1:items.size<=sizeLine)(h2:items.size+items2.size<=sizeLine+1):
  Meets (Builtin.«list.extend» ⟨[.ref l,.ref b],[]⟩) (λ_ R s=>s.heap.get? l=some {cls:=.type "list",dict:=none,data:=.seq items n,slots:=#[]}/\s.heap.get? b=some ⟨.type "tuple",dd,.seq items2 n2,sl⟩/\R (.ok (.ret Value.none)) {s with heap:=s.heap.update l (Obj.mapSeq λx=>x++items2),toks:=s.toks}):=
 .of_wp λprog w A R s h=>by
  obtain⟨hp,g,d,tk,os⟩:=s;obtain⟨hl,hb,h⟩:=h;have f1:=AutoSeq1.idx_int;have f2:=AutoSeq1.sub_tuple_tuple;have f3:=AutoSeq1.sub_list_list;have f4:=AutoSeq1.sub_tuple_list;have f5:=AutoSeq1.sub_list_tuple;have hz':(items++items2).size<=sizeLine+1:=by rw[Array.size_append];exact h2
  wp_walk using(wpAny_updateSeq hl rfl (hz:=h1) (_hz':=hz')),AutoSeq1.wpAny_loadPart' hl,AutoSeq1.wpAny_loadPart' hb
  exact⟨_,rfl,h⟩
theorem wt:Kt X "list.extend" (λx vs H Q=>∃l b xs zs,x=.ref l/\vs=[.ref b]/\H l=some (.lst xs)/\jP X.K H b zs/\xs.length+zs.length<=sizeLine/\Q .non (aS H l (.lst (xs++zs)))):=
 λpins s σ H x vs v us Q I rx rv ⟨l,b,xs,zs,ex,ev,hH,hB,hz,q⟩=>by
 subst ex ev;cases rx;obtain⟨u,rfl,ru⟩:=rv.one;cases ru;obtain⟨z,its,n,r,hl,e⟩:=I.lstM hH;obtain⟨i2,r2,⟨⟨c2,d2,t2,s2⟩,o2,k2,n2,g2⟩,_⟩:=I.tuple hB;simp only at k2 g2;subst k2 g2;have hl2:=r2.length;have hsz:its.toArray.size+i2.toArray.size<=sizeLine:=by rw[size_toArray,size_toArray,←hl,←hl2];exact hz
 refine call_meets F.slot_list_extend ⟨_,e,rfl⟩ F.entry_list_extend (F.args_list_extend_2 _ _) (C4 l its.toArray n b i2.toArray n2 d2 s2 (by rw[nu hsz,Bool.and_false];exact Bool.false_ne_true) (by rw[size_toArray,←hl];exact z) (Nat.le_succ_of_le hsz)) ⟨e,o2,?_⟩
 exact⟨.non,_,I.lset (its':=its++i2) hH e (by simp) (r.append r2) (by rw[length_append];exact hz),rfl,q⟩
theorem C5(l:Addr)(items:Array Value)(n:Nat)(b:Addr)(items2:Array Value)(n2:Nat)(dd:Option Addr)(sl:Array (Option Value))(h0:¬(!items.isEmpty && Builtin.List.listTooLong (items.size+items2.size))=true)(h1:items.size<=sizeLine)(h2:items.size+items2.size<=sizeLine+1):
  Meets (Builtin.«list.extend» ⟨[.ref l,.ref b],[]⟩) (λ_ R s=>s.heap.get? l=some {cls:=.type "list",dict:=none,data:=.seq items n,slots:=#[]}/\s.heap.get? b=some ⟨.type "list",dd,.seq items2 n2,sl⟩/\R (.ok (.ret Value.none)) {s with heap:=s.heap.update l (Obj.mapSeq λx=>x++items2),toks:=s.toks}):=
 .of_wp λprog w A R s h=>by
  obtain⟨hp,g,d,tk,os⟩:=s;obtain⟨hl,hb,h⟩:=h;have f1:=AutoSeq1.idx_int;have f2:=AutoSeq1.sub_tuple_tuple;have f3:=AutoSeq1.sub_list_list;have f4:=AutoSeq1.sub_tuple_list;have f5:=AutoSeq1.sub_list_tuple;have hz':(items++items2).size<=sizeLine+1:=by rw[Array.size_append];exact h2
  wp_walk using(wpAny_updateSeq hl rfl (hz:=h1) (_hz':=hz')),AutoSeq1.wpAny_loadPart' hl,AutoSeq1.wpAny_loadPart' hb
  exact⟨_,rfl,h⟩
theorem wu:Kt X "list.extend" (λx vs H Q=>∃l b xs zs,x=.ref l/\vs=[.ref b]/\H l=some (.lst xs)/\jE X.K H b zs/\xs.length+zs.length<=sizeLine/\Q .non (aS H l (.lst (xs++zs)))):=
 λpins s σ H x vs v us Q I rx rv ⟨l,b,xs,zs,ex,ev,hH,hB,hz,q⟩=>by
 subst ex ev;cases rx;obtain⟨u,rfl,ru⟩:=rv.one;cases ru;obtain⟨z,its,n,r,hl,e⟩:=I.lstM hH;obtain⟨i2,r2,p2,_⟩:=I.list hB;obtain⟨⟨c2,d2,t2,s2⟩,o2,k2,n2,g2⟩:=p2.isList;simp only at k2 g2;subst k2 g2;have hl2:=r2.length;have hsz:its.toArray.size+i2.toArray.size<=sizeLine:=by rw[size_toArray,size_toArray,←hl,←hl2];exact hz
 refine call_meets F.slot_list_extend ⟨_,e,rfl⟩ F.entry_list_extend (F.args_list_extend_2 _ _) (C5 l its.toArray n b i2.toArray n2 d2 s2 (by rw[nu hsz,Bool.and_false];exact Bool.false_ne_true) (by rw[size_toArray,←hl];exact z) (Nat.le_succ_of_le hsz)) ⟨e,o2,?_⟩
 exact⟨.non,_,I.lset (its':=its++i2) hH e (by simp) (r.append r2) (by rw[length_append];exact hz),rfl,q⟩
theorem wD{x:V}{u:Value}{t:String}{T:String}{b:Bool}(I:ay X pins σ H s)(rx:RelV x u)(ty:kf X.K H x (.type t)\/(t = "tuple" /\ ∃a xs,x=.ref a/\jP X.K H a xs)\/(t = "list" /\ ∃a xs,x=.ref a/\jE X.K H a xs))(e:PySem.W.kitOne X.K (.type t) (.type T)=some b){Q:Value->Shared->Prop}{E:Value->Shared->Prop}{A:Around}
  (h:∀tk,Q (.bool b) {s with toks:=tk}):wpAny (model X.prog X.w) A (call (.builtin "isinstance") [u,.type T]) Q E s:=by
 rcases ty with ty|⟨rfl,a,xs,rfl,hq⟩|⟨rfl,a,xs,rfl,hq⟩
 ·exact zI I rx ty e h
 ·cases (show u=Value.ref a from rx);obtain⟨its,_,⟨o,h1,h2,_⟩,_⟩:=I.tuple hq;exact PySem.W.kia_one PySem.W.kitx_tuple I.kIn ⟨o,h1,h2⟩ e (λz=>nomatch z) h
 ·cases (show u=Value.ref a from rx);obtain⟨its,_,pl,_⟩:=I.list hq;obtain⟨o,h1,h2,_⟩:=pl.isList;exact PySem.W.kia_one kitx_list I.kIn ⟨o,h1,h2⟩ e (λz=>nomatch z) h
theorem uX:cZ X (.builtin "isinstance") (λxs H Q=>∃x t T b,xs=[x,.ty T]/\(kf X.K H x (.type t)\/(t = "tuple" /\ ∃a xs,x=.ref a/\jP X.K H a xs)\/(t = "list" /\ ∃a xs,x=.ref a/\jE X.K H a xs))/\PySem.W.kitOne X.K (.type t) (.type T)=some b/\Q (.bl b) H):=λpins s σ H xs us Q I r ⟨x,t,T,b,ex,ty,e,q⟩=>by
 subst ex;obtain⟨u,w,rfl,ru,rw'⟩:=A8 r;cases (show w=Value.type T from rw');exact wD I ru ty e λtk=>⟨.bl b,H,I.tok tk,rfl,q⟩
end
section
variable{prog:Program}{w:World}{A:Around}{E:Value->Shared->Prop}{s:Shared}
theorem ny{it t:Addr}{i:Nat}{items:Array Value}{x:Value}{Q:Value->Shared->Prop}(hit:s.heap.IsTupleIter it t i)(ht:s.heap.IsTuple t items)(hx:items[i]?=some x)
  (hQ:∀h',h'.IsTupleIter it t (i+1)->Heap.SameBut it s.heap h'->Q x {s with heap:=h'}):wpAny (model prog w) A (Builtin.SmallTypes.nextOf (.ref it)) Q E s:=by
 obtain⟨o,ho,hc,hd⟩:=id hit;obtain⟨ot,hot,_,nt,hdt⟩:=ht;unfold Builtin.SmallTypes.nextOf;refine wpAny_bind (wpAny_callSpecial?_slot (name:=Str.ofString "__next__") hit.typeIs F.slot_tuple_iterator_next (wpAny_call_entry F.slot_tuple_iterator_next hit.typeIs F.entry_tuple_iterator_next ?_ (F.args_tuple_iterator_next_1 _)));show wpAny _ _ (field (.ref it) 0 >>= _) _ _ s;refine wpAny_bind (wpAny_field ho hd (x:=.ref t) rfl ?_);show wpAny _ _ (if(Value.ref t == Value.none)=true then _ else _) _ _ s;rw[if_neg (show ¬((Value.ref t == Value.none)=true) from Bool.false_ne_true)];show wpAny _ _ (field (.ref it) 1 >>= _) _ _ s;refine wpAny_bind (wpAny_field ho hd (x:=.int i 0) rfl ?_);show wpAny _ _ (seqItems? (.ref t) >>= _) _ _ s;refine wpAny_bind (wpAny_seqItems hot hdt ?_);simp only[toNat_natCast,hx];refine wpAny_bind (wpAny_setField ho hd (by simp) (wpAny_pure ⟨x,rfl,wpAny_pure (hQ _ ⟨_,get?_update_self _ ho (Obj.isFreed_of_fields (Obj.data_mapFields hd _)),(Obj.cls_mapFields ..).trans hc,?_⟩ (Heap.SameBut.update ..))⟩))
 rw[Obj.data_mapFields hd];simp[rawInt]
theorem pR{it t:Addr}{i:Nat}{items:Array Value}{Q:Value->Shared->Prop}(hh:A.handled=none)(hit:s.heap.IsTupleIter it t i)(ht:s.heap.IsTuple t items)(hx:items[i]?=none)
  (hE:∀h' e,Heap.ExtBut it s.heap h'->(∃o,h'.get? e=some o/\o.cls=.type "StopIteration")->E (.ref e) {s with heap:=h'}):wpAny (model prog w) A (Builtin.SmallTypes.nextOf (.ref it)) Q E s:=by
 obtain⟨o,ho,hc,hd⟩:=id hit;obtain⟨ot,hot,_,nt,hdt⟩:=ht;unfold Builtin.SmallTypes.nextOf;refine wpAny_bind (wpAny_callSpecial?_slot (name:=Str.ofString "__next__") hit.typeIs F.slot_tuple_iterator_next (wpAny_call_entry F.slot_tuple_iterator_next hit.typeIs F.entry_tuple_iterator_next ?_ (F.args_tuple_iterator_next_1 _)));show wpAny _ _ (field (.ref it) 0 >>= _) _ _ s;refine wpAny_bind (wpAny_field ho hd (x:=.ref t) rfl ?_);show wpAny _ _ (if(Value.ref t == Value.none)=true then _ else _) _ _ s;rw[if_neg (show ¬((Value.ref t == Value.none)=true) from Bool.false_ne_true)];show wpAny _ _ (field (.ref it) 1 >>= _) _ _ s;refine wpAny_bind (wpAny_field ho hd (x:=.int i 0) rfl ?_);show wpAny _ _ (seqItems? (.ref t) >>= _) _ _ s;refine wpAny_bind (wpAny_seqItems hot hdt ?_);simp only[toNat_natCast,hx];refine wpAny_bind (wpAny_rule (wpAny_bind (wpAny_setField ho hd (by simp) ?_)));show wpAny _ _ (newExc (.type "StopIteration") [] >>= _) _ _ _
 refine wpAny_bind ?_;simp only[newExc,newTuple];refine wpAny_bind (wpAny_newObj_type ?_ (by size_fits))
 refine wpAny_bind (m:=firstArgMember _ _) (wpAny_of_eq (a:=Value.none) (by first|rfl|(simp only[firstArgMember];rfl)) ?_);refine wpAny_newObj_type ?_ (by size_fits);simp only[raiseNew]
 refine wpAny_bind (wpAny_handled ?_);first|rw[show A.in1.handled=none from hh]|rw[hh]
 exact wpAny_bind (wpAny_pure (wpAny_throw (hE _ _ (((Heap.SameBut.update ..).extBut.push _).push _) ⟨_,get?_push_size _ rfl,rfl⟩)))
end
structure Nx(prog:Program)(w:World)(A:Around)(it l:Addr)(st:Nat->Heap->Prop)(val:Nat->Option Value):Prop where
 item:∀(s:Shared)(k:Nat)(x:Value)(Q:Value->Shared->Prop)(E:Value->Shared->Prop),st k s.heap->val k=some x->(∀h',st (k+1) h'->Heap.SameBut it s.heap h'->Q x {s with heap:=h'})->wpAny (model prog w) A (Builtin.SmallTypes.nextOf (.ref it)) Q E s
 stop:∀(s:Shared)(k:Nat)(Q:Value->Shared->Prop)(E:Value->Shared->Prop),st k s.heap->val k=none->
  (∀h' e,Heap.ExtBut it s.heap h'->(∃o,h'.get? e=some o/\o.cls=.type "StopIteration")->E (.ref e) {s with heap:=h'})->wpAny (model prog w) A (Builtin.SmallTypes.nextOf (.ref it)) Q E s
 ext:∀(k:Nat)(h h':Heap),st k h->(∀b,b=it\/b=l->∀o,h.get? b=some o->h'.get? b=some o)->st k h'
 there:∀(k:Nat)(h:Heap),st k h->(∃o,h.get? it=some o/\∀v,o.data≠.cell v)/\∃o,h.get? l=some o
theorem DX{prog:Program}{w:World}{A:Around}(hh:A.handled=none){it l:Addr}(ne:l≠it)(items:Array Value):Nx prog w A it l (λk h=>h.IsListIter it l k/\h.IsList l items) (λk=>items[k]?) where
 item:=λs k x Q E st e h=>wpAny_nextOf_list_item st.1 st.2 e λh' a b=>h h' ⟨a,st.2.extBut b.extBut ne⟩ b
 stop:=λs k Q E st e h=>wpAny_nextOf_list_end hh st.1 st.2 e h
 ext:=λk h h' st kp=>⟨st.1.at λo e=>kp it (.inl rfl) o e,st.2.at λo e=>kp l (.inr rfl) o e⟩
 there:=λk h st=>by
  obtain⟨⟨o,e,c,d⟩,⟨o2,e2,_⟩⟩:=st;exact⟨⟨o,e,λv z=>by rw[d] at z;cases z⟩,o2,e2⟩
theorem Gw{prog:Program}{w:World}{A:Around}(hh:A.handled=none){it l:Addr}(ne:l≠it)(items:Array Value):Nx prog w A it l (λk h=>h.IsTupleIter it l k/\h.IsTuple l items) (λk=>items[k]?) where
 item:=λs k x Q E st e h=>ny st.1 st.2 e λh' a b=>h h' ⟨a,st.2.extBut b.extBut ne⟩ b
 stop:=λs k Q E st e h=>pR hh st.1 st.2 e h
 ext:=λk h h' st kp=>⟨st.1.at λo e=>kp it (.inl rfl) o e,st.2.at λo e=>kp l (.inr rfl) o e⟩
 there:=λk h st=>by
  obtain⟨⟨o,e,c,d⟩,⟨o2,e2,_⟩⟩:=st;exact⟨⟨o,e,λv z=>by rw[d] at z;cases z⟩,o2,e2⟩
section
variable{X:Cx}{pins:List (Addr×Obj)}{σ:St}{H:Hp}{s:Shared}{h':Heap}
theorem ay.turnedN{t':Nat}{ch:List Addr}(I:ay X pins σ H s)(k:∀b o,b∉ch->s.heap.get? b=some o->h'.get? b=some o)(hf:∀b∈ch,FpOk X pins H b):ay X pins σ H {s with heap:=h',toks:=t'}:=by
 have nch:∀b u,H b=some u->b∉ch:=λb u e z=>by rw[(hf b z).1] at e;cases e
 refine I.step (g':=s.gens) (d':=s.drawn) (ch:=ch) (λb hb=>⟨(hf b hb).2.2.2.1,(hf b hb).2.1,(hf b hb).2.2.2.2.1,(hf b hb).2.2.2.2.2⟩) (λb o _ _ hc e _=>k b o hc e) (λb o _ _ hc e _=>⟨o.slots,k b o hc e⟩) (λ_ _ _ _ n=>n)
  (λb o hc e=>⟨o,k b o hc e⟩) (λ_ _ e=>e) (λ_ _ _ e=>e) (λb ps e=>⟨#[],by rw[e];simp⟩) (λm hm=>?_) (λb u e=>?_) I.bare
 ·obtain⟨o,es,ep,ho,r⟩:=hm;exact⟨o,es,ep,k _ o (λz=>(hf _ z).2.1 rfl) ho,r⟩
 ·refine(I.hok b u e).stay (λc v hc q=>k c v ?_ q) (λ_ q=>q) (λ_ _ q=>q) λ_ _ _ q=>q;rcases hc with z|z
  ·rw[z];exact nch b u e
  ·exact nch c _ z
theorem ay.track{a:Addr}{o:HO}(I:ay X pins σ H s)(hf:FpOk X pins H a)(new:aY X.prog X.w (aS H a o) s.heap a o):ay X pins σ (aS H a o) s:=by
 have ne:∀b u,H b=some u->b≠a:=λb u e z=>by rw[z,hf.1] at e;cases e
 have z:=I.step (g':=s.gens) (d':=s.drawn) (t':=s.toks) (h':=s.heap) (H':=aS H a o) (ch:=[a]) (λb hb=>by rw[mem_singleton.mp hb];exact⟨hf.2.2.2.1,hf.2.1,hf.2.2.2.2.1,hf.2.2.2.2.2⟩) (λb o _ _ _ e _=>e) (λb o _ _ _ e _=>⟨o.slots,e⟩)
  (λb u hc _ n=>by rw[ak (λz=>hc (by simp[z]))];exact n) (λb o _ e=>⟨o,e⟩) (λb xs e=>by rw[ak (ne b _ e)];exact e) (λb u v e=>by rw[ak (ne b _ e)];exact e) (λb ps e=>⟨#[],by rw[ak (ne b _ e),e];simp⟩) (λm hm=>hm) (λb u e=>?_) I.bare
 ·exact z
 ·by_cases hb:b=a
  ·subst hb;rw[aq] at e;cases e;exact new
  ·rw[ak hb] at e;exact(I.hok b u e).stay (λ_ _ _ q=>q) (λc q=>by rw[ak (ne c _ q)];exact q) (λc xs q=>by rw[ak (ne c _ q)];exact q) λc ob u q=>by rw[ak (ne c _ q)];exact q
end
def xi(K:Frag)(H:Hp):Bool->Addr->List V->Prop
 |true,a,xs=>jE K H a xs
 |false,a,xs=>jP K H a xs
def GM(h:Heap):Bool->Addr->Addr->Nat->Prop
 |true,it,l,k=>h.IsListIter it l k
 |false,it,l,k=>h.IsTupleIter it l k
def Jx(h:Heap):Bool->Addr->Array Value->Prop
 |true,l,its=>h.IsList l its
 |false,l,its=>h.IsTuple l its
theorem Ka{prog:Program}{w:World}{A:Around}(hh:A.handled=none){it l:Addr}(ne:l≠it)(items:Array Value)(b:Bool):Nx prog w A it l (λk h=>GM h b it l k/\Jx h b l items) (λk=>items[k]?):=by
 cases b with
 |true=>exact DX hh ne items
 |false=>exact Gw hh ne items
theorem ay.seqX{X:Cx}{pins:List (Addr×Obj)}{σ:St}{H:Hp}{s:Shared}{b:Bool}{a:Addr}{xs:List V}(I:ay X pins σ H s)(h:xi X.K H b a xs):∃its:List Value,Vals xs its/\Jx s.heap b a its.toArray/\a<s.heap.objs.size:=by
 cases b with
 |true=>
  obtain⟨its,r,p,_⟩:=I.list h;refine⟨its,r,p.isList,?_⟩;obtain⟨_,e,_⟩:=p.isList;exact lt_size e
 |false=>
  obtain⟨its,r,p,_⟩:=I.tuple h;refine⟨its,r,p,?_⟩;obtain⟨_,e,_⟩:=p;exact lt_size e
theorem ay.seqX_inj{X:Cx}{pins:List (Addr×Obj)}{σ:St}{H:Hp}{s:Shared}{b:Bool}{a:Addr}{xs ys:List V}(I:ay X pins σ H s)(h:xi X.K H b a xs)(h':xi X.K H b a ys):xs=ys:=by
 cases b with
 |true=>exact I.list_inj h h'
 |false=>exact I.tuple_inj h h'
theorem zO{prog:Program}{w:World}{A:Around}(hh:A.handled=none){it l:Addr}(ne:l≠it)(items:Array Value):Draws prog w A it [it,l] items.size (λi v=>items[i]?=some v) (λi h=>h.IsTupleIter it l i/\h.IsTuple l items) where
 live:=λ_ _ st=>by obtain⟨⟨o,e,_⟩,_⟩:=st;exact⟨o,e⟩
 frame:=λ_ _ _ st k=>⟨Heap.IsTupleIter.at st.1 λo e=>k it (by simp) o e,Heap.IsTuple.at st.2 λo e=>k l (by simp) o e⟩
 item:=λi s Q E hi st hQ=>ny st.1 st.2 (Array.getElem?_eq_getElem hi) λg a b=>hQ _ g s.toks (Array.getElem?_eq_getElem hi) ⟨a,st.2.extBut b.extBut ne⟩ b
 done:=λs Q E st hE=>pR hh st.1 st.2 (by simp) hE
theorem Es{prog:Program}{w:World}{A:Around}(hh:A.handled=none){it l:Addr}(ne:l≠it)(items:Array Value)(b:Bool):Draws prog w A it [it,l] items.size (λi v=>items[i]?=some v) (λi h=>GM h b it l i/\Jx h b l items):=by
 cases b with
 |true=>exact Draws.list hh it l ne items
 |false=>exact zO hh ne items
def Kw(K:Frag)(b:Bool)(l:Addr):It:=
 ⟨λi H=>∃xs x,xi K H b l xs/\xs[i]?=some x,
  λi H x H'=>∃p u,x=.ref p/\H p=none/\H'=aS H p (.tup [.int i,u])/\∀xs,xi K H b l xs->xs[i]?=some u,
  λi H=>∃xs,xi K H b l xs/\xs.length<=i⟩
theorem Ef{h:Heap}{b:Bool}{it l:Addr}{i:Nat}(j:GM h b it l i):∃o,h.get? it=some o/\∀v,o.data≠.cell v:=by
 cases b with
 |_=>obtain⟨o,e,_,d⟩:=j;exact⟨o,e,λv z=>by rw[d] at z;cases z⟩
theorem GL{h h':Heap}{b:Bool}{it l:Addr}{i:Nat}(j:GM h b it l i)(k:∀o,h.get? it=some o->h'.get? it=some o):GM h' b it l i:=by
 cases b with
 |true=>exact Heap.IsListIter.at j k
 |false=>exact Heap.IsTupleIter.at j k
theorem yt{P:Program}{w:World}{K:Frag}{elts:List Expr}{kt:Nat}{tp:Pos}(b:Bool)(e it l:Addr)(hei:e≠it)(hle:l≠e)(hli:l≠it):
  zZ P w K (.Tuple elts kt tp) (Kw K b l) [e,it] e (λi h=>(∃old,IsEnum h e it i old)/\GM h b it l i) where
 mem:=by simp
 obj:=λi h ⟨⟨old,he⟩,j⟩ c hc=>by
  rcases mem_cons.mp hc with rfl|hc
  ·exact⟨_,he,λv z=>nomatch z⟩
  ·rw[mem_singleton.mp hc];exact Ef j
 keep:=λi h h' ⟨⟨old,he⟩,j⟩ k=>⟨⟨old,k e (by simp) _ he⟩,GL j λo z=>k it (by simp) o z⟩
 item:=by
  intro X hP hw hK hc i pins s σ H E I hf ⟨⟨old,he⟩,j⟩ ⟨xs,x,q1,hx⟩;subst hP hw hK;obtain⟨t1,r1,p1,lt1⟩:=I.seqX q1;obtain⟨u1,e1,ru1⟩:=r1.get hx;have hi:i<t1.toArray.size:=by
   have:=(List.getElem?_eq_some_iff.mp e1).1;simpa using this
  have W:=WalksT.enumerateD (Es (prog:=X.prog) (w:=X.w) (A:=X.A.in1) (I.ok.hd hc) hli t1.toArray b) e hei (by simp[hei,Ne.symm hle]) (by simp)
  refine W.item i s _ _ hi ⟨⟨old,he⟩,j,p1⟩ λT vals h' tk ⟨t,v,hv,ev⟩ hT isT mid kp=>?_;have ev1:v=u1:=by
   have:t1[i]?=some v:=by simpa using hv
   rw[e1] at this;exact(Option.some.inj this).symm
  subst ev1;refine⟨_,rfl,W.go elts kt tp i T {s with heap:=h',toks:=tk} _ _ mid λh2 st2 kp2=>?_⟩;have Tn:T∉[e,it]:=W.apart i T h' mid;have I1:ay X pins σ H {s with heap:=h2,toks:=tk}:=I.turnedN (t':=tk) (ch:=[e,it]) (λc o hc z=>kp2 c o hc (kp c o hc z)) hf;have fT:FpOk X pins H T:=I.fpOk hT (I.hok.fresh hT);have I2:ay X pins σ (aS H T (.tup [.int i,x])) {s with heap:=h2,toks:=tk}:=I1.track fT ⟨by show 2<=sizeLine;decide,[.int i t,v],.cons ⟨t,rfl⟩ (.cons ru1 .nil),by
   rw[ev] at isT;exact Heap.IsTuple.at isT λo z=>kp2 T o Tn z⟩
  refine⟨.ref T,_,I2,rfl,⟨T,x,rfl,fT.1,rfl,λxs' q=>by rw[I.seqX_inj q q1];exact hx⟩,⟨st2.1,st2.2.1⟩,λc hc=>?_⟩
  rw[ak]
  ·exact(hf c hc).1
  ·intro z;subst z;exact Tn hc
 done:=by
  intro X hP hw hK hc i pins s σ H E I hf ⟨⟨old,he⟩,j⟩ ⟨xs,q1,hl⟩;subst hP hw hK;obtain⟨t1,r1,p1,lt1⟩:=I.seqX q1;have le1:=r1.length;have hT:s.TypeIs (.ref e) "enumerate" := ⟨_,he,rfl⟩;have N1:=Ka (prog:=X.prog) (w:=X.w) (A:=X.A.in1) (I.ok.hd hc) hli t1.toArray b;unfold pyNext;refine wpAny_bind (wpAny_attempt (wpAny_callSpecial?_slot (name:=Str.ofString "__next__") hT F.slot_enumerate_next (wpAny_call_entry F.slot_enumerate_next hT F.entry_enumerate_next ?_ (F.args_enumerate_next_1 _))));show wpAny _ _ (field (.ref e) 2 >>= _) _ _ _;refine wpAny_bind (wpAny_field he rfl (x:=.ref it) rfl (wpAny_bind (N1.stop s i _ _ ⟨j,p1⟩ (by simp;omega) λg z kg ⟨o,ho,hc⟩=>?_)))
  refine wpAny_bind (wpAny_isInstance (T := "StopIteration") (b:=true) ⟨o,ho,hc⟩ isSubtype_stop (wpAny_pure ⟨rfl,I.turnedN (ch:=[e,it]) (t':=s.toks) (λc o hc z=>kg c o ?_ z) hf⟩));intro z;exact hc (by simp[z])
 self:=λA i s Q E st h=>by
  obtain⟨⟨old,he⟩,_⟩:=st;exact wpAny_pyIter_enum he h
abbrev Jz(h:Heap)(l:Addr):Heap:=h.push {cls:=.type "tuple_iterator",data:=.fields #[.ref l,.int 0 0]}
abbrev Km(h:Heap)(l:Addr):Heap:=(Jz h l).push {cls:=.type "enumerate",data:=.fields #[.none,.bool false,.ref h.objs.size,rawInt 0,.none,.none]}
theorem nB(l:Addr)(xs:Array Value):
  Meets (Builtin.«enumerate.__new__» ⟨[.type "enumerate",.ref l],[]⟩) (λ_ R s=>s.heap.IsTuple l xs/\R (.ok (.ret (.ref (Jz s.heap l).objs.size))) {s with heap:=Km s.heap l}):=
 .of_wp λprog w A R s h=>by
  obtain⟨hp,g,d,tk,os⟩:=s;obtain⟨hl,h⟩:=h;have hsub:=sub_enumerate;have q1:Heap.IsTuple (Shared.heap ⟨hp,g,d,tk,os⟩) l xs:=hl
  wp_walk using wpAny_pyIter_tuple q1
  refine wpAny_stack_any λst=>wpAny_pure ?_;split
  ·rename_i c _ _ _ _ _;cases (c == Value.type "enumerate") <;> (wp_walk using wpAny_pyIter_tuple q1;exact⟨_,rfl,h⟩)
  ·wp_walk using wpAny_pyIter_tuple q1;exact⟨_,rfl,h⟩
section
variable{prog:Program}{w:World}{A:Around}{E:Value->Shared->Prop}{s:Shared}
theorem x9{b:Bool}{l:Addr}{xs:Array Value}{Q:Value->Shared->Prop}(h1:Jx s.heap b l xs)
  (h:∀h',IsEnum h' (s.heap.objs.size+1) s.heap.objs.size 0 .none->GM h' b s.heap.objs.size l 0->(∀c o,s.heap.get? c=some o->h'.get? c=some o)->Q (.ref (s.heap.objs.size+1)) {s with heap:=h'}):
  wpAny (model prog w) A (call (.type "enumerate") [.ref l]) Q E s:=by
 cases b with
 |true=>exact call_enumerate_list h1 λh' a1 a2 _ a4=>h h' a1 a2 a4
 |false=>
  refine callType_new F.called_enumerate (by decide) (F.typeCall_enumerate_1 _) (F.newCall_enumerate_1 _) (λobj=>F.args_object_init_2 obj _) F.entry_enumerate_new (nB l xs) ⟨h1,?_⟩
  have n1:(Jz s.heap l).objs.size=s.heap.objs.size+1:=size_push ..;have g2:(Km s.heap l).get? (Jz s.heap l).objs.size=some _:=get?_push_size _ rfl;have g1:(Km s.heap l).get? s.heap.objs.size=some _:=get?_push_of_some _ (get?_push_size _ rfl);show _/\_;rw[n1] at g2;rw[n1];exact⟨⟨_,g2,rfl⟩,h _ g2 ⟨_,g1,rfl,rfl⟩ λc o x=>get?_push_of_some _ (get?_push_of_some _ x)⟩
end
section
variable{X:Cx}
theorem zV:bootBuiltins "enumerate" = some (.type "enumerate"):=by decide +kernel
def GN(K:Frag)(ta:TA):TI:=λσ H R=>ta σ H λvs H1=>∃b l,vs=[.ref l]/\(∃xs,xi K H1 b l xs)/\R (Kw K b l) H1
theorem Du{a:Expr}{ta:TA}{p pos:Pos}{elts:List Expr}{kt:Nat}{tp:Pos}(hg:Gl X "enumerate")(hm:X.mg "enumerate" = none)(ha:PA X [a] ta)(hs:starEach [a] X.env=[(false,eval a X.env)]:=by rfl):
  PI X (.Tuple elts kt tp) (.Call (.Name "enumerate" p) [a] [] pos) (GN X.K ta):=by
 intro pins s σ H R I h;refine Call_ (iX I hg hm zV (PyProof.Rows.callWith_type1 (bW (ha pos pins s σ H _ I h) λus s1 ⟨vs,H1,I1,r1,b,l,e,⟨xs,q1⟩,q⟩=>?_) hs rfl));subst e;obtain⟨u,rfl,r2⟩:=lM r1;obtain rfl:u=Value.ref l:=r2;obtain⟨t1,_,p1,lt1⟩:=I1.seqX q1;refine x9 p1 λh' z1 j1 kp=>?_;show wpAny _ _ (pyIter (.ref (s1.heap.objs.size+1))) _ _ _;refine wpAny_pyIter_enum z1 ?_;refine⟨_,_,_,_,H1,rfl,I1.kept (t':=s1.toks) kp,yt b (s1.heap.objs.size+1) s1.heap.objs.size l (Nat.succ_ne_self _) (ne_of_lt (Nat.lt_succ_of_lt lt1)) (ne_of_lt lt1),⟨⟨_,z1⟩,j1⟩,λc hc=>?_,q⟩;have hle:s1.heap.objs.size<=c:=by
  have:c=s1.heap.objs.size+1\/c=s1.heap.objs.size:=by simpa using hc
  rcases this with rfl|rfl
  ·exact Nat.le_add_right _ _
  ·exact le_refl _
 exact I1.fpOk hle (I1.hok.fresh hle)
end
end L2
namespace L2
open PySem
abbrev F0(xs:Array Nat):Prop:=xs.toList.Pairwise (· < ·)
theorem qR{xs:Array Nat}(h:F0 xs){i k:Nat}(hik:i<k)(hk:k<xs.size):xs[i]'(by omega)<xs[k]:=by
 have:=List.pairwise_iff_getElem.mp h i k (by simpa using(by omega:i<xs.size)) (by simpa using hk) hik
 simpa using this
theorem o7{xs:Array Nat}(h:F0 xs)(j:Nat):∀(fuel lo hi:Nat),lo<=hi->hi<=xs.size->hi - lo<=fuel->(∀i (hi':i<xs.size),i<lo->xs[i]<j)->(∀i (hi':i<xs.size),hi<=i->j<=xs[i])->
  SetTable.below.go xs j fuel lo hi<=xs.size/\(∀i (hi':i<xs.size),i<SetTable.below.go xs j fuel lo hi->xs[i]<j)/\∀i (hi':i<xs.size),SetTable.below.go xs j fuel lo hi<=i->j<=xs[i]
 |0,lo,hi,h1,h2,h3,h4,h5=>by
  have e:lo=hi:=by omega
  subst e;exact⟨h2,h4,h5⟩
 |fuel+1,lo,hi,h1,h2,h3,h4,h5=>by
  unfold SetTable.below.go;by_cases hl:lo<hi
  ·rw[if_pos hl];have hm:(lo+hi) / 2<xs.size:=by omega
   have hg:xs.getD ((lo+hi) / 2) j=xs[(lo+hi) / 2]:=by simp[hm]
   dsimp only;rw[hg];by_cases hc:xs[(lo+hi) / 2]<j
   ·rw[if_pos hc];refine o7 h j fuel _ _ (by omega) h2 (by omega) (λi hi' hlt=>?_) h5
    by_cases e:i=(lo+hi) / 2
    ·subst e;exact hc
    ·exact lt_trans (qR h (by omega) hm) hc
   ·rw[if_neg hc];refine o7 h j fuel _ _ (by omega) (by omega) (by omega) h4 (λi hi' hle=>?_)
    by_cases e:i=(lo+hi) / 2
    ·subst e;omega
    ·have:=qR h (show(lo+hi) / 2<i by omega) hi';omega
  ·rw[if_neg hl];have e:lo=hi:=by omega
   subst e;exact⟨h2,h4,h5⟩
theorem o6{xs:Array Nat}(h:F0 xs)(j:Nat):SetTable.below xs j<=xs.size/\(∀i (hi':i<xs.size),i<SetTable.below xs j->xs[i]<j)/\∀i (hi':i<xs.size),SetTable.below xs j<=i->j<=xs[i]:=by
 unfold SetTable.below;exact o7 h j xs.size 0 xs.size (zero_le _) (le_refl _) (by omega) (λ_ _ z=>absurd z (Nat.not_lt_zero _)) (λi hi' z=>absurd hi' (by omega))
theorem jH{α:Type}(xs:Array α)(p:Nat)(x:α)(hp:p<=xs.size):(SetTable.insertAt xs p x).toList=xs.toList.take p++x::xs.toList.drop p:=by
 unfold SetTable.insertAt;simp[Array.toList_extract];rw[List.take_of_length_le (by simp)]
theorem jG{α:Type}(xs:Array α)(p:Nat)(x:α)(hp:p<=xs.size):(SetTable.insertAt xs p x).toList.Perm (x::xs.toList):=by
 rw[jH xs p x hp];refine List.perm_middle.trans ?_;rw[List.take_append_drop]
theorem pd{α:Type}(xs:Array α)(p:Nat)(x:α)(hp:p<=xs.size):(SetTable.insertAt xs p x).size=xs.size+1:=by
 rw[←length_toList,(jG xs p x hp).length_eq];simp
structure Tb(t:SetTable)(m:Nat):Prop where
 mask:t.mask=7
 dum:t.dummies=#[]
 plain:t.plain=true
 size:t.place.size=m
 rise:F0 t.place
 le:∀j∈t.place.toList,j<=7
theorem Tb.fits{t:SetTable}{m:Nat}(T:Tb t m)(hm:m<=7):t.fits m=true:=by
 unfold SetTable.fits SetTable.fill;rw[T.size,T.dum,T.mask];simp;omega
theorem Tb.slot{t:SetTable}{m:Nat}(T:Tb t m)(j:Nat):(t.slot j=.empty/\j∉t.place.toList)\/(∃i,t.slot j=.live i)/\j∈t.place.toList:=by
 unfold SetTable.slot;dsimp only;by_cases h:(t.place[SetTable.below t.place j]? == some j)=true
 ·rw[if_pos h];have e:t.place[SetTable.below t.place j]?=some j:=eq_of_beq h;rw[←getElem?_toList] at e;exact .inr ⟨⟨_,rfl⟩,mem_of_getElem? e⟩
 ·rw[if_neg h];have hd:SetTable.has t.dummies j=false:=by rw[T.dum];rfl
  rw[if_neg (by rw[hd];exact Bool.false_ne_true)]
  refine .inl ⟨rfl,λhm=>h ?_⟩;obtain⟨i,hi,e⟩:=getElem_of_mem hm;have hi':i<t.place.size:=by simpa using hi
  have e':t.place[i]=j:=by simpa using e
  obtain⟨h1,h2,h3⟩:=o6 T.rise j;have hb:SetTable.below t.place j=i:=by
   by_cases l:SetTable.below t.place j<=i
   ·by_cases l2:SetTable.below t.place j=i
    ·exact l2
    ·have hlt:SetTable.below t.place j<t.place.size:=by omega
     have a:=h3 _ hlt (le_refl _);have b:=qR T.rise (show SetTable.below t.place j<i by omega) hi'
     omega
   ·have:=h2 i hi' (by omega);omega
  rw[hb,Array.getElem?_eq_getElem hi',e'];exact beq_self_eq_true _
theorem xa{h:Int}(h0:0<=h)(h1:h<32):SetTable.bits h=h.toNat:=by
 unfold SetTable.bits;rw[Int.emod_eq_of_lt h0 (by omega)]
theorem Ek{l:List Nat}{a b c d:Nat}(hl:l.length<=3)(h1:a∈l)(h2:b∈l)(h3:c∈l)(h4:d∈l)(n:[a,b,c,d].Nodup):False:=by
 have hs:[a,b,c,d] ⊆ l:=by
  intro x hx;simp at hx;rcases hx with rfl|rfl|rfl|rfl <;> assumption
 have:=List.Nodup.length_le_of_subset n hs;simp at this;omega
theorem Tb.free{t:SetTable}{m:Nat}(T:Tb t m)(hm:m<=3){h:Int}(h0:0<=h)(h1:h<32):∃j,t.freeSlot h=some (j,false)/\j<=7/\j∉t.place.toList:=by
 obtain⟨n,rfl⟩:∃n:Nat,h=n:=⟨h.toNat,by omega⟩
 have hb:SetTable.bits (n:Int)=n:=by rw[xa h0 h1];rfl
 have hn:n<32:=by omega
 have hl:t.place.toList.length<=3:=by rw[length_toList,T.size];exact hm
 have run:∀(i:Nat),SetTable.runEnd t.mask i=i\/7<i:=λi=>by
  unfold SetTable.runEnd;rw[T.mask];by_cases q:i+9<=7
  ·omega
  ·rw[if_neg q];exact .inl rfl
 have hrun:∀i,SetTable.runEnd t.mask i - i=0:=λi=>by
  unfold SetTable.runEnd;rw[T.mask,if_neg (by omega)]
  omega
 have adv:∀(i p:Nat),p / 32=0->t.advance ⟨i,0,i,p,none⟩=⟨(i * 5+1) % 8,0,(i * 5+1) % 8,0,none⟩:=λi p hp=>by
  unfold SetTable.advance SetTable.leap;rw[if_neg (lt_irrefl 0)];dsimp only;rw[hp,hrun,T.mask]
 have step:∀(fuel i p:Nat),p / 32=0->(∃r,SetTable.probe.go t (λ_=>(n:Int)+1) n (fuel+1) ⟨i,0,i,p,none⟩=some r/\r=.empty i none/\i∉t.place.toList)\/(i∈t.place.toList/\SetTable.probe.go t (λ_=>(n:Int)+1) n (fuel+1) ⟨i,0,i,p,none⟩=SetTable.probe.go t (λ_=>(n:Int)+1) n fuel ⟨(i * 5+1) % 8,0,(i * 5+1) % 8,0,none⟩):=λfuel i p hp=>by
  rcases T.slot i with⟨e,ni⟩|⟨⟨k,e⟩,hi⟩
  ·refine .inl ⟨.empty i none,?_,rfl,ni⟩;unfold SetTable.probe.go;dsimp only;rw[e]
  ·refine .inr ⟨hi,?_⟩
   conv=>lhs;unfold SetTable.probe.go
   dsimp only;rw[e];dsimp only;rw[if_neg (by simp;omega),adv i p hp]
 have hps:t.probeStart (n:Int)=⟨n % 8,0,n % 8,n,none⟩:=by
  unfold SetTable.probeStart;dsimp only;rw[hb,hrun,T.mask]
 have fin:∀{j:Nat}{r:SetTable.Met},j<8->SetTable.probe.go t (λ_=>(n:Int)+1) n (10 * SetTable.turns t.mask) ⟨n % 8,0,n % 8,n,none⟩=some r->r=.empty j none->j∉t.place.toList->∃j,t.freeSlot (n:Int)=some (j,false)/\j<=7/\j∉t.place.toList:=λ{j r} hj e er nj=>by
  refine⟨j,?_,by omega,nj⟩
  unfold SetTable.freeSlot SetTable.probe;rw[hps,e,er];rfl
 have hf:10 * SetTable.turns t.mask=216+1+1+1+1:=by unfold SetTable.turns;rw[T.mask]
 rw[hf] at fin;have h8:n % 8<8:=Nat.mod_lt _ (by decide)
 rcases step (216+1+1+1) (n % 8) n (by omega) with⟨r,e,er,nj⟩|⟨i1,e1⟩
 ·exact fin h8 e er nj
 rcases step (216+1+1) ((n % 8 * 5+1) % 8) 0 rfl with⟨r,e,er,nj⟩|⟨i2,e2⟩
 ·exact fin (by omega) (e1.trans e) er nj
 rcases step (216+1) (((n % 8 * 5+1) % 8 * 5+1) % 8) 0 rfl with⟨r,e,er,nj⟩|⟨i3,e3⟩
 ·exact fin (by omega) ((e1.trans e2).trans e) er nj
 rcases step 216 ((((n % 8 * 5+1) % 8 * 5+1) % 8 * 5+1) % 8) 0 rfl with⟨r,e,er,nj⟩|⟨i4,e4⟩
 ·exact fin (by omega) (((e1.trans e2).trans e3).trans e) er nj
 exact(Ek hl i1 i2 i3 i4 (by
  have:n % 8=0\/n % 8=1\/n % 8=2\/n % 8=3\/n % 8=4\/n % 8=5\/n % 8=6\/n % 8=7:=by omega
  rcases this with h|h|h|h|h|h|h|h <;> rw[h] <;> decide)).elim
theorem Tb.put{t:SetTable}{m:Nat}(T:Tb t m){j:Nat}(hj:j<=7)(nj:j∉t.place.toList):Tb (t.put j).1 (m+1)/\(t.put j).2<=m/\(t.put j).1.led=t.led:=by
 obtain⟨h1,h2,h3⟩:=o6 T.rise j;have hd:SetTable.has t.dummies j=false:=by rw[T.dum];rfl
 have hz:SetTable.below t.place j<=m:=by rw[←T.size];exact h1
 unfold SetTable.put;dsimp only;rw[if_neg (by rw[hd];exact Bool.false_ne_true)]
 refine⟨⟨T.mask,T.dum,T.plain,?_,?_,λk hk=>?_⟩,hz,rfl⟩
 ·show(SetTable.insertAt t.place (SetTable.below t.place j) j).size=_;rw[pd _ _ _ h1,T.size]
 ·show(SetTable.insertAt t.place (SetTable.below t.place j) j).toList.Pairwise (· < ·);rw[jH _ _ _ h1];refine List.pairwise_append.mpr ⟨List.Pairwise.sublist (List.take_sublist _ _) T.rise,List.pairwise_cons.mpr ⟨λk hk=>?_,List.Pairwise.sublist (List.drop_sublist _ _) T.rise⟩,λa ha b hb=>?_⟩
  ·obtain⟨i,hi,e⟩:=getElem_of_mem hk;rw[List.getElem_drop] at e;rw[length_drop,length_toList] at hi;have a:=h3 (SetTable.below t.place j+i) (by omega) (by omega)
   have e':t.place[SetTable.below t.place j+i]'(by omega)=k:=by simpa using e
   have:k≠j:=λz=>nj (by rw[←z];exact List.mem_of_mem_drop hk)
   omega
  ·obtain⟨i,hi,e⟩:=getElem_of_mem ha;rw[List.getElem_take] at e;rw[length_take,length_toList] at hi;have a1:=h2 i (by omega) (by omega)
   have e':t.place[i]'(by omega)=a:=by simpa using e
   rcases mem_cons.mp hb with rfl|hb
   ·omega
   ·obtain⟨i2,hi2,e2⟩:=getElem_of_mem hb;rw[List.getElem_drop] at e2;rw[length_drop,length_toList] at hi2;have a2:=h3 (SetTable.below t.place j+i2) (by omega) (by omega)
    have e3:t.place[SetTable.below t.place j+i2]'(by omega)=b:=by simpa using e2
    omega
 ·have hk':k∈(SetTable.insertAt t.place (SetTable.below t.place j) j).toList:=hk;have:=(jG _ _ j h1).mem_iff.mp hk';rcases mem_cons.mp this with rfl|z
  ·exact hj
  ·exact T.le k z
end L2
namespace L2
open PySem PySem.Spec PyProof.Rows
inductive FE:List (Int×Value)->List Int->Prop
 |nil:FE [] []
 |cons (k:Int) (tk:Tok) {es ks}:FE es ks->FE ((hashInt k,.int k tk)::es) (k::ks)
theorem FE.length{es:List (Int×Value)}{ks:List Int}(h:FE es ks):es.length=ks.length:=by
 induction h with
 |nil=>rfl
 |cons k tk _ ih=>rw[length_cons,length_cons,ih]
theorem FE.ints{es:List (Int×Value)}{ks:List Int}(h:FE es ks):IntsAre (es.map (·.2)) ks:=by
 induction h with
 |nil=>exact .nil
 |cons k tk _ ih=>exact .cons k tk ih
def Hr(w:World)(h:Heap)(a:Addr)(ks:List Int):Prop:=∃o es ep t ks',h.get? a=some o/\o.ExactSet/\o.data=.set es ep t/\FE es.toList ks'/\ks'.Perm ks/\Tb t es.size/\t.led=!w.params.followText "set-order"
theorem Hr.at{w:World}{h h':Heap}{a:Addr}{ks:List Int}(S:Hr w h a ks)(k:∀o,h.get? a=some o->h'.get? a=some o):Hr w h' a ks:=by
 obtain⟨o,es,ep,t,ks',ho,r⟩:=S;exact⟨o,es,ep,t,ks',k o ho,r⟩
def Cy(h:Heap)(a:Addr)(es:Array (Int×Value))(ep:Nat)(t:SetTable):Prop:=∃o,h.get? a=some o/\o.ExactSet/\o.data=.set es ep t
section
variable{prog:Program}{w:World}{A:Around}{E:Value->Shared->Prop}{s:Shared}{a it:Addr}{es:Array (Int×Value)}{ep:Nat}{t:SetTable}
theorem Cy.state(S:Cy s.heap a es ep t)(hf:t.fits es.size=true){Q:(Array (Int×Value)×Nat×SetTable)->Shared->Prop}(h:Q (es,ep,t) s):wpAny (model prog w) A (setState a) Q E s:=by
 obtain⟨o,ho,_,hd⟩:=S;exact wpAny_setState_of ho hd hf h
end
section
variable{prog:Program}{w:World}{A:Around}{E:Value->Shared->Prop}{s:Shared}{a:Addr}{es:Array (Int×Value)}{ep:Nat}{t:SetTable}
theorem Cy.at{h h':Heap}(S:Cy h a es ep t)(k:∀o,h.get? a=some o->h'.get? a=some o):Cy h' a es ep t:=by
 obtain⟨o,ho,r⟩:=S;exact⟨o,k o ho,r⟩
end
section
variable{X:Cx}
def L6(ns:List Int):Prop:=ns.length<=4/\∀n∈ns,0<=n/\n<32
end
end L2
namespace L2
open PySem PySem.Spec PyProof.Rows PySem.W
section
variable{X:Cx}{pins:List (Addr×Obj)}{σ:St}{s:Shared}
theorem ay.drop{H0:Hp}{it:Addr}{φ:Heap->Prop}(I:ay X pins σ (aS H0 it (.ext φ)) s)(hn:H0 it=none):ay X pins σ H0 s:=by
 have ne:∀b u,H0 b=some u->b≠it:=λb u e z=>by rw[z,hn] at e;cases e
 have ne2:∀b u,aS H0 it (.ext φ) b=some u->(∀ψ,u≠.ext ψ)->H0 b=some u:=λb u e hu=>by
  by_cases z:b=it
  ·subst z;rw[aq] at e;cases e;exact absurd rfl (hu φ)
  ·rwa[ak z] at e
 refine I.un (h':=s.heap) (t':=s.toks) ⟨λb o q _ _ _=>q,λb o q _ _ _=>⟨o.slots,q⟩,λb o q n _=>?_,λb o q _=>⟨o,q⟩,λb xs q=>ne2 b _ q (λψ z=>nomatch z),λb o u q=>ne2 b _ q (λψ z=>nomatch z),λb ps q=>⟨#[],by rw[ne2 b _ q (λψ z=>nomatch z)];simp⟩⟩ λb u e=>?_
 ·by_cases z:b=it
  ·rw[z];exact hn
  ·rwa[ak z] at n
 ·have q:=I.hok b u (by rw[ak (ne b u e)];exact e)
  exact q.stay (λc v _ r=>r) (λc r=>ne2 c _ r (λψ z=>nomatch z)) (λc xs r=>ne2 c _ r (λψ z=>nomatch z)) λc ob u r=>ne2 c _ r (λψ z=>nomatch z)
end
theorem ou{p q:Pos}{c cv:Value}:∀(l:List Value),TriplesOk l->codeAmong p (l++[rawInt q.line,rawInt q.col,c])=some cv->codeAmong p l=some cv\/((q.line=p.line/\q.col=p.col)/\cv=c)
 |[],_,h=>by
  have h':(if(q.line:Int) == (p.line:Int) && (q.col:Int) == (p.col:Int) then some c else none)=some cv:=h;split at h'
  ·rename_i hh;cases h';simp at hh;exact .inr ⟨⟨by have:=hh.1;omega,by have:=hh.2;omega⟩,rfl⟩
  ·cases h'
 |.int a x::.int b y::d::rest,t,h=>by
  have t':TriplesOk rest:=t;have h':(if a == p.line && b == p.col then some d else codeAmong p (rest++[rawInt q.line,rawInt q.col,c]))=some cv:=h;show(if a == p.line && b == p.col then some d else codeAmong p rest)=some cv\/_;split at h'
  ·rename_i hh;rw[if_pos hh];exact .inl h'
  ·rename_i hh;rw[if_neg hh];exact ou rest t' h'
structure dQ where
 params:Arguments
 body:Expr
 scope:Scope
 qual:Str
 par:Str
 fv:List Str
abbrev dQ.obj(L:dQ)(clos:List (Str×Addr))(pm:Value)(c:Addr)(ctv:Value):Obj:=kla_obj "<lambda>" L.qual L.params L.body L.scope clos pm c ctv
def vf(mg:Str->Option Value)(h:Heap):Prop:=
 ∃bm o,mg "__builtins__" = some (.ref bm)/\bm≠builtinsNs/\bm≠mainGlobals/\h.get? bm=some o/\o.cls=.type "module" /\ o.dict=some builtinsNs/\o.data=.plain
def sy(good:Pos->Option Str):Prop:=∀p q:Pos,p.line=q.line->p.col=q.col->good p=good q
def JP(L:dQ)(P:Addr)(good:Pos->Option Str)(clos:List (Str×Addr)):TE:=λ_ H Q=>H P=some (.tab good)/\
 ∀(H0:Hp)(a:Addr)(pm:Value)(c:Addr)(ctv:Value),aB H H0->H0 a=none->Q (.ref a) (aS H0 a (.frz (L.obj clos pm c ctv) (.fnc c L.qual)))
section
variable{X:Cx}
theorem G8{L:dQ}{P c:Addr}{good:Pos->Option Str}{clos:List (Str×Addr)}{pos:Pos}(hgp:sy good)(hC:CodeHd X.base c P)(hcode:X.env.code=.ref c)(hB:vf X.mg X.base)(hq:X.env.qual ++ "<lambda>" = L.qual)(hg:good pos=some L.qual)
  (hcl:closureFor L.scope X.env=pure clos) (hdef:defaultsOf L.params X.env=([],[])):PE X (.Lambda L.params L.body L.scope pos) (JP L P good clos):=by
 intro pins s σ H Q I ⟨hP,h⟩;refine kla_eval hdef ?_;rw[hq];obtain⟨ps,eP,tr,hgood⟩:=I.hok P _ hP;obtain⟨bm,ob,b1,b2,b3,b4,b5,b6,b7⟩:=hB;have nP:∀b o,X.base.get? b=some o->b≠P:=λb o e z=>by
  have:=(I.bs b o e).2;rw[z,hP] at this;cases this
 have hgP:mainGlobals≠P:=by
  obtain⟨o,es,ep,e,_⟩:=I.mod.glob;exact nP _ _ e
 have hB':s.heap.BuiltinsAt X.mg P:=⟨bm,ob,b1,b2,b3,nP _ _ b4,I.bk _ _ b4,b5,b6,b7⟩;have hG:s.heap.Ns mainGlobals X.mg:=I.mod.glob.keeps I.bk;cases hc:codeAmong pos ps.toList with
 |none=>
  refine kla_makeFunction (mg:=X.mg) hcl I.ok.glob hG hcode (hC.keeps I.bk) eP tr hc hgP hB' λc' ctv h' tk hx hge hlt hrec htb=>?_;obtain⟨c₂,oc,vs,t,e2,hoc,hd,hv⟩:=hrec;cases e2;have f1:H c'=none:=I.hok.fresh hge;have cP:c'≠P:=λz=>by rw[z,hP] at f1;cases f1
  have s1:aB H (aS H c' (.frz oc (.own c'))):=λb u e=>by rw[ak (aC e f1)];exact e
  have sz:s.heap.objs.size<=h'.objs.size:=le_of_lt (Nat.lt_of_le_of_lt hge hlt);have ok1:jB X.prog X.w (aS H c' (.frz oc (.own c'))) h':=λb u e=>by
   by_cases hb:b=c'
   ·subst hb;rw[aq] at e;cases e;exact⟨hoc,⟨oc,hoc⟩⟩
   ·rw[ak hb] at e;by_cases hbP:b=P
    ·subst hbP;rw[hP] at e;cases e;refine⟨_,htb,?_,λp cv hgp' hcv=>?_⟩
     ·rw[Array.toList_append];exact TriplesOk_snoc _ _ _ _ tr
     ·rw[Array.toList_append] at hcv;rcases ou _ tr hcv with z|⟨⟨z1,z2⟩,z3⟩
      ·obtain⟨c2,oc2,q2,vs2,t2,r1,r2,r3⟩:=hgood p cv hgp' z;exact⟨c2,oc2,q2,vs2,t2,r1,s1 _ _ r2,r3⟩
      ·exact⟨c',oc,L.qual,vs,t,z3,aq,by rw[←hgp pos p z1 z2];exact hg,hd,hv⟩
    ·refine(I.hok b u e).stay (λx v hxb q=>hx x v (λz=>?_) q) (λx q=>s1 _ _ q) (λx xs q=>s1 _ _ q) λx o v q=>s1 _ _ q;rcases hxb with z'|z'
     ·exact hbP (z'.symm.trans z)
     ·rw[z,hP] at z';cases z'
  have I1:ay X pins σ (aS H c' (.frz oc (.own c'))) {s with heap:=h',toks:=tk}:=I.un (t':=tk) ⟨λb o q n _ _=>hx b o (λz=>by rw[z,hP] at n;cases n) q,
    λb o q n _ _=>⟨o.slots,hx b o (λz=>by rw[z,hP] at n;cases n) q⟩,λb o q n _=>by rw[ak (ne_of_lt (lt_of_lt_of_le (lt_size q) hge))];exact n,λb o q _=>by
     by_cases hb:b=P
     ·subst hb;exact⟨_,htb⟩
     ·exact⟨o,hx b o hb q⟩,λb xs q=>s1 _ _ q,λb o u q=>s1 _ _ q,λb qs q=>⟨#[],by rw[s1 _ _ q];simp⟩⟩ ok1
  have f2:aS H c' (.frz oc (.own c')) h'.objs.size=none:=I1.hok.fresh (le_refl _);exact⟨.ref h'.objs.size,_,I1.laid (o:=.frz (L.obj clos ((X.mg "__name__").getD .none) c' ctv) (.fnc c' L.qual)) (λb u q=>get?_push_of_some _ q) (le_refl _)
   ⟨get?_push_size _ rfl,⟨_,get?_push_size _ rfl⟩,oc,vs,t,by rw[ak (ne_of_lt hlt),aq],hd,hv⟩,rfl,h _ _ _ _ _ s1 f2⟩
 |some cv=>
  obtain⟨c',oc,q,vs,t,rfl,hc',hgq,hd,hv⟩:=hgood pos cv (by rw[hg];rfl) hc
  rw[hg] at hgq;cases hgq;refine kla_makeFunctionHit (mg:=X.mg) hcl I.ok.glob hG hcode (hC.keeps I.bk) eP tr hc hB' λctv h' tk hk hsz=>?_;have f2:H h'.objs.size=none:=I.hok.fresh hsz;have ne:c'≠h'.objs.size:=aC hc' f2;exact⟨.ref h'.objs.size,_,I.laid (o:=.frz (L.obj clos ((X.mg "__name__").getD .none) c' ctv) (.fnc c' L.qual)) (t':=tk) (λb u q=>get?_push_of_some _ (hk b u q)) hsz
   ⟨get?_push_size _ rfl,⟨_,get?_push_size _ rfl⟩,oc,vs,t,by rw[ak ne];exact hc',hd,hv⟩,rfl,h _ _ _ _ _ (.refl _) f2⟩
end
theorem gS:∀(names:List (Str×NameKind))(n:Nat)(acc:List (Str×Addr)),cellsFrom n names acc=cellsFrom n names []++acc
 |[],_,_=>rfl
 | (x,k)::r,n,acc=>by
  unfold cellsFrom;split
  ·rw[gS r (n+1) ((x,n)::acc),gS r (n+1) [(x,n)],append_assoc];rfl
  ·exact gS r n acc
theorem i6{α:Type}{x:Str}:∀{l m:List (Str×α)},(l++m).lookup x=(match l.lookup x with|some c=>some c|none=>m.lookup x)
 |[],m=>rfl
 | (y,c)::l,m=>by
  rw[cons_append,lookup_cons,lookup_cons];cases x == y with
  |true=>rfl
  |false=>exact i6
structure KH(s₀:Shared)(env:Env)(clos:List (Str×Addr))(x:Str)(v:Value)(s:Shared):Prop where
 inc:∃m,InCall s₀ env.locals m s/\Hz env s.heap m x v
 cell:∀n c,(n,c)∈env.cells->∃u,s.heap.IsCell c u
 apart:env.cells.Pairwise λx y=>x.2≠y.2
 above:∀n c,(n,c)∈env.cells->(n,c)∈clos\/env.locals<c
section
variable{M:Model}{A:Around}{E:Value->Shared->Prop}{s:Shared}
theorem yC{env:Env}{x:Str}{v:Value}(f:Str×Value->PUnit->Sem (ForInStep PUnit))(hf:∀n v u,f (n,v) u=(do storeName env n v;pure (.yield ⟨⟩)))(hk:env.scope.kind=.function)
  {m:Str->Option Value} (hns:s.heap.Ns env.locals m) (hx:env.kindOf x=some .local\/(env.kindOf x=some .cell/\∃c,env.cells.lookup x=some c/\env.locals<c)) (cl:∀n c,(n,c)∈env.cells->∃u,s.heap.IsCell c u) (ne:∀n c,(n,c)∈env.cells->c≠env.locals)
  {Q:PUnit->Shared->Prop} (h:∀h' m' e tk,h'.Ns env.locals m'->Hz env h' m' x v->Heap.SameBut e s.heap h'->env.locals<=e->(∀n c,(n,c)∈env.cells->∃u,h'.IsCell c u)->Q ⟨⟩ {s with heap:=h',toks:=tk}):wpAny M A (forIn [(x,v)] ⟨⟩ f) Q E s:=by
 rw[forIn_cons,hf];rcases hx with hl|⟨hl,c,hc,hLc⟩
 ·refine wpAny_bind (wpAny_bind (wpAny_storeName_local hl hns (λh' hn' hs'=>wpAny_pure ?_) (by rw[hk];rfl)))
  show wpAny M A (forIn [] _ _) Q E _;rw[List.forIn_nil];refine wpAny_pure (h h' _ env.locals _ hn' (.inl ⟨hl,?_⟩) hs' (le_refl _) λn c hm=>?_)
  ·simp
  ·obtain⟨u,hu⟩:=cl n c hm;exact⟨u,hu.sameBut hs' (ne n c hm)⟩
 ·obtain⟨u,hu⟩:=cl x c (PySem.mem_of_lookup hc);refine wpAny_bind (wpAny_bind (wpAny_storeName_cell hk hl hc hu λh' hc' hs'=>wpAny_pure ?_));show wpAny M A (forIn [] _ _) Q E _;rw[List.forIn_nil];refine wpAny_pure (h h' m c _ (hns.sameBut hs' (ne_of_lt hLc)) (.inr ⟨.inl hl,c,hc,hc'⟩) hs' (le_of_lt hLc) λn c2 hm=>?_);by_cases z:c2=c
  ·subst z;exact⟨_,hc'⟩
  ·obtain⟨u2,hu2⟩:=cl n c2 hm;exact⟨u2,hu2.sameBut hs' z⟩
theorem wk{scope:Scope}{globals:Addr}{clos:List (Str×Addr)}{x:Str}{v:Value}{qual:Str}{func:Option Addr}{code:Value}{builtins:Addr}{Q:Env->Shared->Prop}
  (hk:scope.kind=.function) (hx:scope.names.lookup x=some .local\/scope.names.lookup x=some .cell)
  (hc:∀n c,(n,c)∈clos->∃u,s.heap.IsCell c u) (ha:clos.Pairwise λx y=>x.2≠y.2)
  (hQ:∀env,env=newEnv scope s.heap.objs.size globals (cellsFrom (s.heap.objs.size+1) scope.names clos) qual func code none builtins->∀s',KH s env clos x v s'->Q env s'):
  wpAny M A (newFunctionEnv scope globals clos [(x,v)] qual func code none builtins) Q E s:=by
 simp only[newFunctionEnv,Option.isSome_none,Bool.false_eq_true,if_false];refine wpAny_bind (wpAny_alloc ?_);refine wpAny_bind (wpAny_layCells _ (λname kind cells=>by cases hkc:kind == NameKind.cell <;> simp[hkc]) _ _ _ _ ?_)
 have ok:=cellsFrom_ok scope.names (s.heap.push {cls:=.type "frame",data:=.dict #[]}) (s.heap.objs.size+1) [] ⟨λ_ _ hm=>(nomatch hm),List.Pairwise.nil⟩ (by rw[size_push];exact le_refl _)
 rw[size_push] at ok;rw[show({s with heap:=s.heap.push {cls:=.type "frame",data:=.dict #[]}}:Shared).heap.objs.size=s.heap.objs.size+1 from size_push ..];have eC:cellsFrom (s.heap.objs.size+1) scope.names clos=cellsFrom (s.heap.objs.size+1) scope.names []++clos:=gS _ _ _;have kp:∀b o,s.heap.get? b=some o->(pushCells (s.heap.push {cls:=.type "frame",data:=.dict #[]}) scope.names).get? b=some o:=λb o e=>pushCells_keeps _ _ b o (get?_push_of_some _ e);have hns:(pushCells (s.heap.push {cls:=.type "frame",data:=.dict #[]}) scope.names).Ns s.heap.objs.size (λ_=>none):=(Heap.Ns.new s.heap (.type "frame")).keeps (pushCells_keeps _ _);have cl:∀n c,(n,c)∈cellsFrom (s.heap.objs.size+1) scope.names clos->∃u,(pushCells (s.heap.push {cls:=.type "frame",data:=.dict #[]}) scope.names).IsCell c u:=λn c hm=>by
  rw[eC] at hm;rcases mem_append.mp hm with z|z
  ·exact⟨none,(ok.empty n c z).1⟩
  ·obtain⟨u,hu⟩:=hc n c z;exact⟨u,hu.keeps kp⟩
 have ab:∀n c,(n,c)∈cellsFrom (s.heap.objs.size+1) scope.names clos->(n,c)∈clos\/s.heap.objs.size<c:=λn c hm=>by
  rw[eC] at hm;rcases mem_append.mp hm with z|z
  ·exact .inr (ok.empty n c z).2
  ·exact .inl z
 have ne:∀n c,(n,c)∈cellsFrom (s.heap.objs.size+1) scope.names clos->c≠s.heap.objs.size:=λn c hm=>by
  rcases ab n c hm with z|z
  ·obtain⟨u,hu⟩:=hc n c z;exact ne_of_lt hu.lt
  ·exact ne_of_gt z
 have ap:(cellsFrom (s.heap.objs.size+1) scope.names clos).Pairwise λx y=>x.2≠y.2:=by
  rw[eC];refine List.pairwise_append.mpr ⟨ok.apart,ha,λa hm b hb z=>?_⟩;have l1:=(ok.empty a.1 a.2 hm).2;obtain⟨u,hu⟩:=hc b.1 b.2 hb;have z':a.2=b.2:=z;exact lt_irrefl _ (lt_trans (z'▸hu.lt:a.2<s.heap.objs.size) l1)
 have hx':scope.names.lookup x=some .local\/(scope.names.lookup x=some .cell/\∃c,(cellsFrom (s.heap.objs.size+1) scope.names clos).lookup x=some c/\s.heap.objs.size<c):=by
  rcases hx with z|z
  ·exact .inl z
  ·obtain⟨c,e⟩:=kM (n:=s.heap.objs.size+1) z;exact .inr ⟨z,c,by rw[eC,i6,e],(ok.empty x c (PySem.mem_of_lookup e)).2⟩
 refine wpAny_bind (yC (s:={s with heap:=pushCells (s.heap.push {cls:=.type "frame",data:=.dict #[]}) scope.names}) (env:=newEnv scope s.heap.objs.size globals (cellsFrom (s.heap.objs.size+1) scope.names clos) qual func code none builtins) _ (λ_ _ _=>rfl) hk hns hx' cl ne λh' m' e tk ns lk sb le cc=>wpAny_pure ?_);exact hQ _ rfl _ ⟨⟨m',⟨⟨h',tk,rfl⟩,ns,λb o q=>sb.extBut b o (ne_of_lt (lt_of_lt_of_le (lt_size q) le)) (kp b o q),le_refl _⟩,lk⟩,cc,ap,ab⟩
end
theorem gw{y:Str}{c:Addr}:∀(names:List (Str×NameKind))(n:Nat)(acc:List (Str×Addr)),(y,c)∈cellsFrom n names acc->(y,c)∈acc\/(y,NameKind.cell)∈names
 |[],_,_,h=>.inl h
 | (x,k)::r,n,acc,h=>by
  unfold cellsFrom at h;split at h
  ·rename_i hk;rcases gw r _ _ h with z|z
   ·rcases mem_cons.mp z with z|z
    ·cases z;rw[eq_of_beq hk];exact .inr mem_cons_self
    ·exact .inl z
   ·exact .inr (mem_cons_of_mem _ z)
  ·rcases gw r _ _ h with z|z
   ·exact .inl z
   ·exact .inr (mem_cons_of_mem _ z)
theorem iV{α:Type}{y:Str}{c:α}:∀{fv:List Str}{cs:List α}{j:Nat},fv.Nodup->fv[j]?=some y->cs[j]?=some c->(fv.zip cs).lookup y=some c
 |[],_,_,_,h,_=>by simp at h
 |_::_,[],_,_,_,h=>by simp at h
 |f::fv,d::cs,0,nd,h1,h2=>by
  simp at h1 h2;subst h1;subst h2;simp[lookup_cons]
 |f::fv,d::cs,j+1,nd,h1,h2=>by
  have h1':fv[j]?=some y:=by simpa using h1
  have ne:(y == f)=false:=by
   apply beq_false_of_ne
   rintro rfl
   exact(nodup_cons.mp nd).1 (mem_of_getElem? h1')
  rw[zip_cons_cons,lookup_cons,ne];exact iV (nodup_cons.mp nd).2 h1' (by simpa using h2)
def without(H:Hp)(cs:List Addr):Hp:=λb=>if b∈cs then none else H b
def back(H:Hp)(cs:List Addr)(H2:Hp):Hp:=λb=>if b∈cs then H b else H2 b
def cg(H:Hp)(cs:List Addr)(xs:List V):Prop:=Paired (λ(c:Addr)(x:V)=>∃o u,H c=some (.frz o (.own c))/\o.data=.cell (some u)/\RelV x u) cs xs
theorem cg.mono{H H':Hp}{cs:List Addr}{xs:List V}(s:aB H H')(h:cg H cs xs):cg H' cs xs:=Paired.mapP h λ_ _ ⟨o,u,e,r⟩=>⟨o,u,s _ _ e,r⟩
theorem cg.mem{H:Hp}:∀{cs:List Addr}{xs:List V},cg H cs xs->∀c∈cs,∃o u,H c=some (.frz o (.own c))/\o.data=.cell (some u)
 |_::_,_::_,.cons ⟨o,u,e,d,_⟩ t,c,hc=>by
  rcases mem_cons.mp hc with rfl|hc
  ·exact⟨o,u,e,d⟩
  ·exact cg.mem t c hc
theorem cg.get{H:Hp}:∀{cs:List Addr}{xs:List V}{j:Nat}{x:V},cg H cs xs->xs[j]?=some x->∃c o u,cs[j]?=some c/\H c=some (.frz o (.own c))/\o.data=.cell (some u)/\RelV x u
 |c::_,_::_,0,x,.cons ⟨o,u,e,d,r⟩ t,h=>by
  simp at h;subst h;exact⟨c,o,u,rfl,e,d,r⟩
 |_::_,_::_,j+1,x,.cons _ t,h=>by
  obtain⟨c,o,u,h1,h2⟩:=cg.get (j:=j) t (by simpa using h)
  exact⟨c,o,u,by simpa using h1,h2⟩
 |[],[],j,x,.nil,h=>by simp at h
theorem cg.length{H:Hp}:∀{cs:List Addr}{xs:List V},cg H cs xs->cs.length=xs.length
 |[],[],.nil=>rfl
 |_::_,_::_,.cons _ t=>by rw[length_cons,length_cons,cg.length t]
theorem kj{H:Hp}{cs:List Addr}{b:Addr}{u:HO}(h:without H cs b=some u):b∉cs/\H b=some u:=by
 unfold without at h;split at h
 ·cases h
 ·rename_i n;exact⟨n,h⟩
theorem gU{H:Hp}{cs:List Addr}{b:Addr}(h:H b=none):without H cs b=none:=by
 unfold without;split
 ·rfl
 ·exact h
theorem fF{H:Hp}{cs:List Addr}{b:Addr}(h:b∉cs):without H cs b=H b:=by unfold without;rw[if_neg h]
theorem mJ{H H2:Hp}{cs:List Addr}{b:Addr}(h:b∉cs):back H cs H2 b=H2 b:=by unfold back;rw[if_neg h]
theorem j8{H H2:Hp}{cs:List Addr}{b:Addr}(h:b∈cs):back H cs H2 b=H b:=by unfold back;rw[if_pos h]
theorem aY.to{P:Program}{w:World}{H H':Hp}{h:Heap}{a:Addr}{o:HO}(x:aY P w H h a o)(k:∀b v,H b=some v->(∀ob u z,v=.frz ob u->ob.data≠.cell z)->H' b=some v):aY P w H' h a o:=by
 induction o with
 |lst xs=>exact x
 |tup xs=>exact x
 |dK kvs=>exact x
 |dT kvs=>
  obtain⟨z,y,xs,r,rest⟩:=x;exact⟨z,y,xs,Paired.mapP r λp q z=>⟨z.1,k _ _ z.2.1 (λ_ _ _ e=>nomatch e),z.2.2⟩,rest⟩
 |set S n=>exact x
 |ins C dx fs=>exact⟨k _ _ x.1 (λ_ _ _ e=>nomatch e),x.2⟩
 |own y=>exact x
 |xd fs=>exact x
 |rng lo hi=>exact x
 |frz ob u ih=>exact⟨x.1,ih x.2⟩
 |tbl ps=>exact x
 |tab good=>
  obtain⟨ps,e,tr,q⟩:=x;refine⟨ps,e,tr,λp cv hg hc=>?_⟩;obtain⟨c,oc,qq,vs,t,e1,e2,e3,e4,e5⟩:=q p cv hg hc;exact⟨c,oc,qq,vs,t,e1,k _ _ e2 (λob u z e=>by cases e;rw[e4];exact λe=>nomatch e),e3,e4,e5⟩
 |fnc c q=>
  obtain⟨y,oc,vs,t,e1,e2,e3⟩:=x;exact⟨y,oc,vs,t,k _ _ e1 (λob u z e=>by cases e;rw[e2];exact λe=>nomatch e),e2,e3⟩
 |met f y=>exact x
 |ext φ=>exact x
theorem jB.without{P:Program}{w:World}{H:Hp}{h:Heap}{cs:List Addr}(x:jB P w H h)(hc:∀c∈cs,∃o u,H c=some (.frz o (.own c))/\o.data=.cell (some u)):jB P w (without H cs) h:=λa o e=>by
 obtain⟨_,e⟩:=kj e;refine aY.to (x a o e) λb v hb nc=>?_;rw[fF]
 ·exact hb
 ·intro hm;obtain⟨ob,u,q,d⟩:=hc b hm;rw[hb] at q;cases q;exact nc _ _ _ rfl d
structure je(N:List Str)(L:dQ):Prop where
 kind:L.scope.kind=.function
 co:L.scope.isCoroutine=false
 gen:L.scope.isGenerator=false
 nd:N.Nodup
 pre:N.take (1+L.fv.length)=L.par::L.fv
 par:L.scope.names.lookup L.par=some .local\/L.scope.names.lookup L.par=some .cell
 fvs:∀y∈L.fv,L.scope.names.lookup y=some .free/\(y,NameKind.cell)∉L.scope.names
 all:∀y,L.scope.names.lookup y=some .free->y∈L.fv
abbrev j3(L:dQ)(n f c:Addr)(clos:List (Str×Addr)):Env:=newEnv L.scope n mainGlobals (cellsFrom (n+1) L.scope.names clos) (L.qual ++ ".<locals>.") (some f) (.ref c) none builtinsNs
def y6(P:Program)(w:World)(K:Frag)(mg:Str->Option Value)(base:Heap)(N:List Str)(L:dQ)(f c:Addr)(clos:List (Str×Addr))(A:Around)(outer:List Env)(s:Shared)(H:Hp):Cx where
 prog:=P
 w:=w
 K:=K
 mg:=mg
 base:=base
 A:=A.deeper (j3 L s.heap.objs.size f c clos)
 N:=N
 s₀:=s
 H₀:=H
 env:=j3 L s.heap.objs.size f c clos
 outer:=outer
 stack:=j3 L s.heap.objs.size f c clos::outer
 ex:=[]
 calm:=true
 fn:=λx=>L.scope.names.lookup x == some .cell
 pn:=[]
 xe:=λ_ _=>False
section
variable{P:Program}{w:World}{K:Frag}{mg:Str->Option Value}{base:Heap}{N:List Str}{L:dQ}{f c:Addr}{cs:List Addr}{A:Around}{outer:List Env}{s s1:Shared}{H:Hp}{u:Value}{v:V}{xs:List V}
theorem jf.without(e:jf P w K mg base A outer s H)(hc:∀c∈cs,∃o u,H c=some (.frz o (.own c))/\o.data=.cell (some u)):jf P w K mg base A outer s (L2.without H cs):=
 ⟨e.frames,e.mod,λb o q=>⟨(e.bs b o q).1,gU (e.bs b o q).2⟩,e.bsz,e.funs,λb hb=>gU (e.frf b hb),e.hok.without hc,e.bare⟩
theorem qB{cs:List Addr}{fv:List Str}{y:Str}{c:Addr}(h:(y,c)∈fv.zip cs):c∈cs:=(of_mem_zip h).2
theorem pw:∀{fv:List Str}{cs:List Addr},cs.Nodup->(fv.zip cs).Pairwise λx y=>x.2≠y.2
 |[],_,_=>.nil
 |_::_,[],_=>.nil
 |f::fv,c::cs,nd=>by
  rw[zip_cons_cons];refine List.pairwise_cons.mpr ⟨λy hy z=>?_,pw (nodup_cons.mp nd).2⟩;have z':c=y.2:=z;exact(nodup_cons.mp nd).1 (z'▸qB (y:=y.1) (c:=y.2) hy)
theorem Eg(S:je N L)(hd:A.handled=none)(e0:jf P w K mg base A outer s H)(hcs:cg H cs xs)(nd:cs.Nodup)(hl:cs.length=L.fv.length)(r:RelV v u)
  (x:KH s (j3 L s.heap.objs.size f c (L.fv.zip cs)) (L.fv.zip cs) L.par u s1):
  ay (y6 P w K mg base N L f c (L.fv.zip cs) A outer s (without H cs)) [] (start N (v::xs)) (without H cs) s1:=by
 have e1:=e0.without hcs.mem;have hpl:1+L.fv.length<=N.length:=by have:=congrArg List.length S.pre;rw[length_take,length_cons] at this;omega
 obtain⟨m,inc,lk⟩:=x.inc;obtain⟨h1,tk,rfl,hk⟩:=inc.done;have noA:∀b:Addr,b∉(y6 P w K mg base N L f c (L.fv.zip cs) A outer s (without H cs)).ex:=λb z=>absurd (show b∈([]:List Addr) from z) (by simp)
 have eC:(j3 L s.heap.objs.size f c (L.fv.zip cs)).cells=cellsFrom (s.heap.objs.size+1) L.scope.names []++L.fv.zip cs:=gS _ _ _;have hxl:xs.length=L.fv.length:=by rw[←hcs.length];exact hl
 have fvc:∀(j:Nat)(y:Str),L.fv[j]?=some y->∀c',cs[j]?=some c'->(j3 L s.heap.objs.size f c (L.fv.zip cs)).cells.lookup y=some c':=λj y hy c' hc'=>by
  rw[eC,i6];have nf:L.fv.Nodup:=by
   have:(L.par::L.fv).Nodup:=by rw[←S.pre];exact S.nd.sublist (List.take_sublist _ _)
   exact(nodup_cons.mp this).2
  cases q:(cellsFrom (s.heap.objs.size+1) L.scope.names []).lookup y with
  |none=>exact iV nf hy hc'
  |some d=>
   rcases gw _ _ _ (PySem.mem_of_lookup q) with z|z
   ·cases z
   ·exact absurd z (S.fvs y (mem_of_getElem? hy)).2
 refine⟨⟨e0.mod,S.kind,rfl,rfl,le_refl _,λy z c h1 h2=>?_,λy hy=>?_,λy c' hf h=>?_,λ_=>hd,Around.frames_deeper e0.frames,.inr ⟨rfl,rfl⟩,λb z=>absurd z (noA b),e1.bs,e1.bsz,λb _ _=>noA b,λb z=>absurd z (noA b),e1.funs,e1.frf⟩,
  rfl,e1.bare,Un.kept hk,⟨m,inc.ns,λi y v' h1 h2 h3=>?_⟩,λy c h=>x.cell y c (PySem.mem_of_lookup h),e1.hok.fresh (le_refl _),λy c' h=>?_,λp hp=>absurd (show p∈([]:List (Addr×Obj)) from hp) (by simp),e1.hok.kept hk,?_⟩
 ·exact name_of_addr x.apart (PySem.mem_of_lookup h1) (PySem.mem_of_lookup h2)
 ·have hy:L.scope.names.lookup y=some .cell\/L.scope.names.lookup y=some .free:=hy;show ∃c',(j3 L s.heap.objs.size f c (L.fv.zip cs)).cells.lookup y=some c';rcases hy with hy|hy
  ·obtain⟨c',q⟩:=kM (n:=s.heap.objs.size+1) hy;exact⟨c',by rw[eC,i6,q]⟩
  ·obtain⟨j,hj,ej⟩:=getElem_of_mem (S.all y hy);have hj':j<cs.length:=by rw[hl];exact hj
   exact⟨cs[j],fvc j y (by rw[getElem?_eq_getElem hj,ej]) _ (getElem?_eq_getElem hj')⟩
 ·have hf:L.scope.names.lookup y=some .cell:=eq_of_beq hf;rcases x.above y c' (PySem.mem_of_lookup h) with z|z
  ·have hm:=(of_mem_zip z).1;rw[(S.fvs y hm).1] at hf;cases hf
  ·exact le_of_lt z
 ·cases i with
  |zero=>
   have hy:y=L.par:=by
    have q:=congrArg (·[0]?) S.pre;simp only[List.getElem?_take_of_lt (show 0<1+L.fv.length by omega)] at q
    have h1':N[0]?=some y:=h1;rw[h1'] at q;simpa using q
   subst hy;have hv:v'=v:=by
    have h2':(start N (v::xs))[0]?=some (some v'):=h2;unfold start at h2';simpa using h2'.symm
   subst hv;exact⟨u,r,lk⟩
  |succ j=>
   have hj:j<xs.length:=by
    have h2':(start N (v::xs))[j+1]?=some (some v'):=h2;unfold start at h2';by_cases z:j<xs.length
    ·exact z
    ·rw[getElem?_append_right (by simp;omega),getElem?_replicate] at h2'
     split at h2' <;> cases h2'
   have hv:xs[j]?=some v':=by
    have h2':(start N (v::xs))[j+1]?=some (some v'):=h2;unfold start at h2';rw[getElem?_append_left (by simp;omega),getElem?_map] at h2'
    simpa using h2'
   have hy:L.fv[j]?=some y:=by
    have q:=congrArg (·[j+1]?) S.pre;simp only[List.getElem?_take_of_lt (show j+1<1+L.fv.length by omega)] at q
    have h1':N[j+1]?=some y:=h1;rw[h1'] at q;simpa using q.symm
   obtain⟨c',o,u',hc',hH,hdat,rv⟩:=hcs.get hv;refine⟨u',rv,.inr ⟨.inr (S.fvs y (mem_of_getElem? hy)).1,c',fvc j y hy c' hc',⟨o,hk _ _ (e0.hok c' _ hH).1,hdat⟩⟩⟩
 ·rcases x.above y c' (PySem.mem_of_lookup h) with z|z
  ·show without H cs c'=none;unfold without;rw[if_pos (qB z)]
  ·exact e1.hok.fresh (le_of_lt z)
 ·unfold start;show _=N.length;rw[length_append,length_map,length_replicate,length_cons];omega
theorem De{k:Nat}{a:Addr}{pm ctv:Value}{Q:VK}{t:TE}(S:je N L)(hbind:∀(pm:Value)(clos:List (Str×Addr))(c:Addr)(ctv u:Value),bindArgs (kla_fn "<lambda>" L.qual L.params L.body L.scope clos pm (.ref c) ctv) ⟨[u],[]⟩=pure [(L.par,u)])
  (hr:ba (k+1) A) (e0:jf P w K mg base A outer s H) (ha:H a=some (.frz (L.obj (L.fv.zip cs) pm c ctv) (.fnc c L.qual))) (hcs:cg H cs xs) (nd:cs.Nodup) (hl:cs.length=L.fv.length) (r:RelV v u)
  (hb:PE (y6 P w K mg base N L a c (L.fv.zip cs) A outer s (without H cs)) L.body t) (ht:t (start N (v::xs)) (without H cs) λv' H2=>Q v' (back H cs H2)):
  codeAny (model P w) A (.call (.ref a) ⟨[u],[]⟩) (CR jg outer P w H s Q E0) s:=by
 obtain⟨eA,_,oc,vs,tk,hcode,hdd,hv⟩:=e0.hok a _ ha;have hrec:s.heap.CodeRec (.ref c) L.qual:=⟨c,oc,vs,tk,rfl,(e0.hok c _ hcode).1,hdd,hv⟩;have lim:s.heap.NoLimit:=e0.mod.nolimit.keeps λb o e=>(e0.bs b o e).1;refine kla_callFunE hr.depth eA rfl S.co S.gen rfl hrec ?_;rw[hbind];refine wpAny_pure (wk S.kind S.par (λy c' hm=>?_) (pw nd) λenv he s1 x=>?_)
 ·obtain⟨o,u',q,d⟩:=hcs.mem c' (qB hm);exact⟨some u',o,(e0.hok c' _ q).1,d⟩
 subst he;obtain⟨m,inc,_⟩:=id x.inc;refine⟨lim.keeps inc.keep,kla_codeExpr ?_⟩;have I:=Eg (c:=c) (f:=a) S hr.hd e0 hcs nd hl r x;refine wpAny_mono (hb [] s1 _ _ _ I ht) (λuu s' ⟨v',H2,J,rv,q⟩=>?_) λ_ _ z=>z.elim;have un:Un (frs outer) [] (without H cs) H2 s.heap s'.heap:=J.base;have inH:∀b,b∈cs->∃o u,H b=some (.frz o (.own b))/\o.data=.cell (some u)/\s'.heap.get? b=some o/\H2 b=none:=λb hb=>by
  obtain⟨o,u',q,d⟩:=hcs.mem b hb;have g:=(e0.hok b _ q).1;have n:without H cs b=none:=by unfold without;rw[if_pos hb]
  exact⟨o,u',q,d,un.keep b o g n (λz=>by rw[e0.frf b z] at q;cases q) (by simp),un.free b o g n (by simp)⟩
 have sm:∀b o,H2 b=some o->back H cs H2 b=some o:=λb o e=>by
  rw[mJ]
  ·exact e
  ·intro hb;obtain⟨_,_,_,_,_,z⟩:=inH b hb;rw[z] at e;cases e
 have wo:∀b,H b=none->without H cs b=none/\b∉cs:=λb n=>⟨gU n,λhb=>by
  obtain⟨_,_,q,_⟩:=inH b hb;rw[q] at n;cases n⟩
 have lift:∀b o,H b=some o->b∉cs->without H cs b=some o:=λb o e hb=>by rw[fF hb];exact e
 refine⟨v',back H cs H2,J.os,J.bare,⟨λb o g n=>un.keep b o g (wo b n).1,λb o g n=>un.slot b o g (wo b n).1,λb o g n hx=>by rw[mJ (wo b n).2];exact un.free b o g (wo b n).1 hx,un.there,λb ys e=>?_,λb o z e=>?_,λb ps e=>?_⟩,λb o e=>?_,rv,q⟩
 ·by_cases hb:b∈cs
  ·rw[j8 hb];exact e
  ·exact sm _ _ (un.tups b ys (lift _ _ e hb))
 ·by_cases hb:b∈cs
  ·rw[j8 hb];exact e
  ·exact sm _ _ (un.frzs b o z (lift _ _ e hb))
 ·by_cases hb:b∈cs
  ·exact⟨#[],by rw[j8 hb,e];simp⟩
  ·obtain⟨more,z⟩:=un.tbls b ps (lift _ _ e hb);exact⟨more,sm _ _ z⟩
 ·by_cases hb:b∈cs
  ·obtain⟨o',u',q',d,g,_⟩:=inH b hb;rw[j8 hb,q'] at e;cases e;exact⟨g,⟨o',g⟩⟩
  ·rw[mJ hb] at e;exact(J.hok b o e).stay (λ_ _ _ z=>z) (λ_ z=>sm _ _ z) (λ_ _ z=>sm _ _ z) λ_ _ _ z=>sm _ _ z
end
abbrev HB(h:Heap)(z TI TO T:Addr)(b:Bool):Prop:=
 h.get? z=some {cls:=.type "zip",dict:=none,data:=.fields #[rawInt T,.bool b,.bool false,.ref TI,.ref TO],slots:=#[]}
section
variable{prog:Program}{w:World}{A:Around}{E:Value->Shared->Prop}{s:Shared}
structure Kq(h:Heap)(z TI TO i1 i2 l1 l2 S:Addr)(xs ys:Array Value)(i:Nat):Prop where
 zip:(i=0/\IsZip h z TI TO .none)\/∃T b oT,HB h z TI TO T b/\h.get? T=some oT/\T∉[z,TO,i1,i2,S]
 ti:IsPair h TI (.ref i1) (.ref i2)
 to:∃a b,IsPair h TO a b
 it1:h.IsListIter i1 l1 i
 it2:h.IsListIter i2 l2 i
 ls1:h.IsList l1 xs
 ls2:h.IsList l2 ys
theorem Kq.keep{h h':Heap}{z TI TO i1 i2 l1 l2 S:Addr}{xs ys:Array Value}{i:Nat}(x:Kq h z TI TO i1 i2 l1 l2 S xs ys i)(k:∀b o,b≠S->h.get? b=some o->h'.get? b=some o)(hS:S∉[z,TI,TO,i1,i2,l1,l2]):Kq h' z TI TO i1 i2 l1 l2 S xs ys i:=by
 have n:∀c∈[z,TI,TO,i1,i2,l1,l2],c≠S:=λc hc e=>hS (e▸hc);refine⟨?_,k _ _ (n _ (by simp)) x.ti,let ⟨a,b,e⟩:=x.to;⟨a,b,k _ _ (n _ (by simp)) e⟩,x.it1.at λo e=>k _ o (n _ (by simp)) e,x.it2.at λo e=>k _ o (n _ (by simp)) e,x.ls1.at λo e=>k _ o (n _ (by simp)) e,x.ls2.at λo e=>k _ o (n _ (by simp)) e⟩
 rcases x.zip with⟨e,q⟩|⟨T,b,oT,q,t,m⟩
 ·exact .inl ⟨e,k _ _ (n _ (by simp)) q⟩
 ·exact .inr ⟨T,b,oT,k _ _ (n _ (by simp)) q,k _ _ (λe=>m (by simp[e])) t,m⟩
end
end L2
namespace L2
open PySem PySem.Spec
section
variable{prog:Program}{w:World}{A:Around}{E:Value->Shared->Prop}{s:Shared}{d it:Addr}{od:Obj}{es:Array DictEntry}{ep i:Nat}
theorem Eu{Q:Value->Shared->Prop}(lo:(d == sysModules)=false)(gd:s.heap.get? d=some od)(ex:od.ExactDict)(dt:od.data=.dict es ep)
  (q:Q (.ref s.heap.objs.size) {s with heap:=s.heap.push {cls:=.type "dict_keyiterator",data:=.fields #[.ref d,.int 0 0,.int es.size 0,.int ep 0]}}):wpAny (model prog w) A (pyIter (.ref d)) Q E s:=by
 have ty:s.TypeIs (.ref d) "dict" := ⟨od,gd,ex.1⟩;refine wpAny_pyIter_slot ty F.slot_dict_iter (wpAny_call_entry F.slot_dict_iter ty F.entry_dict_iter ?_ (F.args_dict_iter_1 _));unfold Builtin.«dict.__iter__»;refine wpAny_bind ?_;unfold Builtin.Dict.dictSlotNone;refine wpAny_bind (wpAny_notOrdered_dict ty ?_);show wpAny _ _ (pure (Value.ref d)) _ _ s;refine wpAny_pure ?_;show wpAny _ _ (Builtin.Dict.showsAll d >>= _) _ _ s;unfold Builtin.Dict.showsAll;rw[if_neg (by rw[lo];exact Bool.false_ne_true)]
 refine wpAny_bind (wpAny_pure (wpAny_bind (wpAny_dictEntries gd dt (wpAny_bind (wpAny_dictEpoch gd dt (wpAny_bind (wpAny_newObj_type (wpAny_pure ⟨_,rfl,"dict_keyiterator",_,⟨_,get?_push_size _ rfl,rfl⟩,F.slot_dict_keyiterator_next.lookup,?_⟩))))))));simpa [rawInt] using q
theorem Ew{Q:Option Value->Shared->Prop}{e:DictEntry}(st:s.heap.IsKeyIter it d i es.size ep)(gd:s.heap.get? d=some od)(dt:od.data=.dict es ep)(at':es[i]?=some e)
  (q:∀h',h'.IsKeyIter it d (i+1) es.size ep->Heap.SameBut it s.heap h'->Q (some e.key) {s with heap:=h'}):wpAny (model prog w) A (pyNext (.ref it)) Q E s:=by
 obtain⟨o,go,oc,odt⟩:=id st;unfold pyNext;refine wpAny_bind (wpAny_attempt (wpAny_callSpecial?_slot (name:=Str.ofString "__next__") st.typeIs F.slot_dict_keyiterator_next (wpAny_call_entry F.slot_dict_keyiterator_next st.typeIs F.entry_dict_keyiterator_next ?_ (F.args_dict_keyiterator_next_1 _))));refine wpAny_bind (wpAny_pure (wpAny_bind (wpAny_bind ?_)))
 first|refine wpAny_bind (wpAny_typeNameOfWhole_keyiter st.typeIs (wpAny_pure (wpAny_bind (wpAny_fieldsOf go odt ?_))))|refine wpAny_bind (wpAny_typeNameOf_keyiter st.typeIs (wpAny_pure (wpAny_bind (wpAny_fieldsOf go odt ?_))))
 simp only[show Builtin.Dict_items.ownsTuple "dict_keyiterator" = false by decide,Bool.false_eq_true,if_false]
 show wpAny _ _ (if(Value.ref d == Value.none)=true then _ else _) _ _ s;rw[if_neg (show ¬((Value.ref d == Value.none)=true) from Bool.false_ne_true)];refine wpAny_bind (wpAny_pure (wpAny_bind (wpAny_dictEntries gd dt ?_)));rw[if_neg (by simp)]
 refine wpAny_bind (wpAny_pure (wpAny_bind (wpAny_dictEpoch gd dt ?_)));rw[if_neg (by simp)];refine wpAny_pure ?_
 have lt:i<es.size:=by
  rcases Nat.lt_or_ge i es.size with h|h
  ·exact h
  ·rw[Array.getElem?_eq_none h] at at';cases at'
 have ee:es[i]=e:=by rw[Array.getElem?_eq_getElem lt] at at';exact Option.some.inj at'
 simp only[show ¬((i:Int)<0) from by omega,if_false,toNat_natCast,Array.getElem?_eq_getElem lt]
 refine wpAny_bind ?_
 first|refine wpAny_bind (wpAny_typeNameOfWhole_keyiter st.typeIs (wpAny_pure (wpAny_bind (wpAny_isOneOf_keyiter st.typeIs ?_))))|refine wpAny_bind (wpAny_typeNameOf_keyiter st.typeIs (wpAny_pure (wpAny_bind (wpAny_isOneOf_keyiter st.typeIs ?_))))
 show wpAny _ _ (setField (.ref it) 1 (rawInt ((i:Int)+1)) >>= _) _ _ s;refine wpAny_bind (wpAny_setField go odt (by simp) ?_)
 have st':(s.heap.update it (Obj.mapFields (·.setIfInBounds 1 (rawInt ((i:Int)+1))))).IsKeyIter it d (i+1) es.size ep:=⟨_,get?_update_self _ go (Obj.isFreed_of_fields (Obj.data_mapFields odt _)),(Obj.cls_mapFields ..).trans oc,by rw[Obj.data_mapFields odt];simp[rawInt]⟩
 refine wpAny_bind (wpAny_holding (wpAny_bind (wpAny_isOneOf_keyiter (s:={s with heap:=s.heap.update it (Obj.mapFields (·.setIfInBounds 1 (rawInt ((i:Int)+1))))}) st'.typeIs ?_)));show wpAny _ _ (pure es[i].key) _ _ _;rw[ee];exact wpAny_pure (wpAny_pure ⟨_,rfl,wpAny_pure (q _ st' (Heap.SameBut.update ..))⟩)
theorem Et{Q:Option Value->Shared->Prop}(hh:A.handled=none)(st:s.heap.IsKeyIter it d i es.size ep)(gd:s.heap.get? d=some od)(dt:od.data=.dict es ep)(ge:es.size<=i)
  (q:∀h',Heap.ExtBut it s.heap h'->Q none {s with heap:=h'}):wpAny (model prog w) A (pyNext (.ref it)) Q E s:=by
 obtain⟨o,go,oc,odt⟩:=id st;unfold pyNext;refine wpAny_bind (wpAny_attempt (wpAny_callSpecial?_slot (name:=Str.ofString "__next__") st.typeIs F.slot_dict_keyiterator_next (wpAny_call_entry F.slot_dict_keyiterator_next st.typeIs F.entry_dict_keyiterator_next ?_ (F.args_dict_keyiterator_next_1 _))));refine wpAny_bind (wpAny_pure (wpAny_bind (wpAny_bind ?_)))
 first|refine wpAny_bind (wpAny_typeNameOfWhole_keyiter st.typeIs (wpAny_pure (wpAny_bind (wpAny_fieldsOf go odt ?_))))|refine wpAny_bind (wpAny_typeNameOf_keyiter st.typeIs (wpAny_pure (wpAny_bind (wpAny_fieldsOf go odt ?_))))
 simp only[show Builtin.Dict_items.ownsTuple "dict_keyiterator" = false by decide,Bool.false_eq_true,if_false]
 show wpAny _ _ (if(Value.ref d == Value.none)=true then _ else _) _ _ s;rw[if_neg (show ¬((Value.ref d == Value.none)=true) from Bool.false_ne_true)];refine wpAny_bind (wpAny_pure (wpAny_bind (wpAny_dictEntries gd dt ?_)));rw[if_neg (by simp)]
 refine wpAny_bind (wpAny_pure (wpAny_bind (wpAny_dictEpoch gd dt ?_)));rw[if_neg (by simp)];refine wpAny_pure ?_
 simp only[show ¬((i:Int)<0) from by omega,if_false,toNat_natCast,Array.getElem?_eq_none ge]
 refine wpAny_bind ?_
 first|refine wpAny_bind (wpAny_typeNameOfWhole_keyiter st.typeIs (wpAny_pure ?_))|refine wpAny_bind (wpAny_typeNameOf_keyiter st.typeIs (wpAny_pure ?_))
 show wpAny _ _ (setField (.ref it) 0 .none >>= _) _ _ s;refine wpAny_bind (wpAny_setField go odt (by simp) ?_)
 show wpAny _ _ (newExc (.type "StopIteration") [] >>= _) _ _ _;refine wpAny_bind ?_;simp only[newExc,newTuple];refine wpAny_bind (wpAny_newObj_type ?_ (by size_fits));refine wpAny_bind (m:=firstArgMember _ _) (wpAny_of_eq (a:=Value.none) (by first|rfl|(simp only[firstArgMember];rfl)) (wpAny_newObj_type ?_ (by size_fits)))
 simp only[raiseNew];refine wpAny_bind (wpAny_handled ?_);rw[show A.in1.handled=none from hh];refine wpAny_bind (wpAny_pure (wpAny_throw ?_));refine wpAny_bind (wpAny_isInstance (T := "StopIteration") (b:=true) ⟨_,get?_push_size _ rfl,rfl⟩ isSubtype_stop ?_);exact wpAny_pure (q _ (((Heap.SameBut.update ..).extBut.push _).push _))
theorem GX{Q:Value->Shared->Prop}(lo:(d == sysModules)=false)(gd:s.heap.get? d=some od)(ex:od.ExactDict)(dt:od.data=.dict es ep)(sm:(es.size:Int)<2 ^ 63)(q:∀t tk,Q (.int es.size t) {s with toks:=tk}):wpAny (model prog w) A (call (.builtin "len") [.ref d]) Q E s:=by
 have ty:s.TypeIs (.ref d) "dict" := ⟨od,gd,ex.1⟩;refine Calls.call_function_entry kind_len plain_len entry_len (args_len1 _) ?_;unfold Builtin.«len»;refine wpAny_bind (m:=oneArg "len" _) (wpAny_pure ?_);refine wpAny_bind (m:=callSpecial? (.ref d) (Str.ofString "__len__")) (wpAny_callSpecial?_slot (name:=Str.ofString "__len__") ty F.slot_dict_len (wpAny_call_entry F.slot_dict_len ty F.entry_dict_len ?_ (F.args_dict_len_1 _)));show wpAny _ _ (dictSize d >>= _) _ _ s;unfold dictSize;refine wpAny_bind (wpAny_bind (wpAny_dictEntries gd dt (wpAny_pure ?_)));show wpAny _ _ (Builtin.Dict.pendingCount d >>= _) _ _ s;refine wpAny_bind (wpAny_pendingCount_other lo (wpAny_ret_mkInt ?_));refine wpAny_bind (wpAny_holding (wpAny_pure ?_));refine wpAny_bind (wpAny_letGo ?_);show wpAny _ _ (if((es.size:Int)+((0:Nat):Int))<0 then _ else _) _ _ _;rw[if_neg (by omega)]
 show wpAny _ _ (if((es.size:Int)+((0:Nat):Int)) ≥ 2 ^ 63 then _ else _) _ _ _;rw[if_neg (by omega)]
 have z:((es.size:Int)+((0:Nat):Int))=(es.size:Int):=by omega
 rw[z];exact wpAny_bind (wpAny_mkInt (wpAny_pure ⟨_,rfl,q _ _⟩))
end
end L2
namespace L2
open PySem PySem.Spec PyProof.Rows
abbrev CF(h:Heap)(it d:Addr)(i n ep:Nat)(ok ov f0:Value)(f1:Bool):Prop:=
 h.get? it=some {cls:=.type "dict_itemiterator",dict:=none,data:=.fields #[f0,.bool f1,.ref d,.int i 0,.int n 0,.int ep 0,ok,ov],slots:=#[]}
section
variable{prog:Program}{w:World}{A:Around}{E:Value->Shared->Prop}{s:Shared}{it d v:Addr}{od:Obj}{es:Array DictEntry}{i ep:Nat}{ok ov f0:Value}{f1:Bool}
theorem Ex{Q:Value->Shared->Prop}(lo:(d == sysModules)=false)(gd:s.heap.get? d=some od)(ex:od.ExactDict)
  (q:Q (.ref s.heap.objs.size) {s with heap:=s.heap.push {cls:=.type "dict_items",data:=.fields #[.ref d]}}):wpAny (model prog w) A (call (.builtin "dict.items") [.ref d]) Q E s:=by
 have ty:s.TypeIs (.ref d) "dict" := ⟨od,gd,ex.1⟩;refine wpAny_call_entry F.slot_dict_items ty F.entry_dict_items ?_ (F.args_dict_items_1 _);unfold Builtin.«dict.items» Builtin.Dict.noArgs;refine wpAny_bind (wpAny_bind (wpAny_notOrdered_dict ty ?_));show wpAny _ _ (pure d) _ _ s;refine wpAny_pure ?_;show wpAny _ _ (Builtin.Dict.showsAll d >>= _) _ _ s;unfold Builtin.Dict.showsAll;rw[if_neg (by rw[lo];exact Bool.false_ne_true)]
 exact wpAny_bind (wpAny_pure (wpAny_bind (wpAny_newObj_type (wpAny_pure ⟨_,rfl,q⟩))))
theorem EA{Q:Value->Shared->Prop}(hv:s.heap.IsItemsView v d)(gd:s.heap.get? d=some od)(dt:od.data=.dict es ep)
  (q:Q (.ref s.heap.objs.size) {s with heap:=s.heap.push {cls:=.type "dict_itemiterator",data:=.fields #[.none,.bool false,.ref d,.int 0 0,.int es.size 0,.int ep 0,.none,.none]}}):wpAny (model prog w) A (pyIter (.ref v)) Q E s:=by
 obtain⟨o,h1,h2,h3⟩:=id hv;refine wpAny_pyIter_slot hv.typeIs F.slot_dict_items_iter (wpAny_call_entry F.slot_dict_items_iter hv.typeIs F.entry_dict_items_iter ?_ (F.args_dict_items_iter_1 _));unfold Builtin.«dict_items.__iter__»;refine wpAny_bind (wpAny_pure (wpAny_bind ?_));unfold Builtin.Dict_items.dictOf;refine wpAny_bind (wpAny_field h1 h3 (x:=.ref d) rfl (wpAny_pure (wpAny_bind ?_)));unfold Builtin.Dict_items.newIterator;refine wpAny_bind (wpAny_dictEntries gd dt (wpAny_bind (wpAny_dictEpoch gd dt ?_)));simp only[show Builtin.Dict_items.ownsTuple "dict_itemiterator" = true by decide,if_true]
 refine wpAny_newObj_type (wpAny_pure ⟨_,rfl,"dict_itemiterator",_,⟨_,get?_push_size _ rfl,rfl⟩,F.slot_dict_itemiterator_next.lookup,?_⟩) (by simp only[sizeOk,Builtin.Dict_items.ownedTupleFields,size_toArray,length_append,length_cons,length_nil,sizeLine_eq];omega)
 simpa [rawInt,Builtin.Dict_items.ownedTupleFields] using q
theorem EB{e:DictEntry}{Q:Option Value->Shared->Prop}(hit:CF s.heap it d i es.size ep ok ov f0 f1)(gd:s.heap.get? d=some od)(dt:od.data=.dict es ep)(hx:es[i]?=some e)
  (hf:f0=.none\/∃(a:Addr)(oa:Obj),f0=rawInt a/\s.heap.get? a=some oa/\a≠it)
  (hQ:∀h' ok' ov' g0 g1,CF h' it d (i+1) es.size ep ok' ov' g0 g1->(g0=rawInt s.heap.objs.size\/∃(a:Addr)(oa:Obj),g0=rawInt a/\f0=rawInt a/\s.heap.get? a=some oa/\a≠it)->h'.get? s.heap.objs.size=some {cls:=.type "tuple",data:=.seq #[e.key,e.val]}->h'.objs.size=s.heap.objs.size+1->
   (∀b o,b≠it->s.heap.get? b=some o->h'.get? b=some o)->Q (some (.ref s.heap.objs.size)) {s with heap:=h'}):wpAny (model prog w) A (pyNext (.ref it)) Q E s:=by
 obtain⟨hp,g,dr,tk,os⟩:=s;have ty:Shared.TypeIs ⟨hp,g,dr,tk,os⟩ (.ref it) "dict_itemiterator" := ⟨_,hit,rfl⟩;obtain⟨hlt,hxe⟩:=Array.getElem?_eq_some_iff.mp hx;unfold pyNext;refine wpAny_bind (wpAny_attempt (wpAny_callSpecial?_slot (name:=Str.ofString "__next__") ty F.slot_dict_itemiterator_next (wpAny_call_entry F.slot_dict_itemiterator_next ty F.entry_dict_itemiterator_next ?_ (F.args_dict_itemiterator_next_1 _))));refine wpAny_bind (wpAny_pure (wpAny_bind (wpAny_bind ?_)))
 first|refine wpAny_bind (wpAny_typeNameOfWhole_itemiter ty (wpAny_pure (wpAny_bind (wpAny_fieldsOf hit rfl ?_))))|refine wpAny_bind (wpAny_typeNameOf_itemiter ty (wpAny_pure (wpAny_bind (wpAny_fieldsOf hit rfl ?_))))
 simp only[show Builtin.Dict_items.ownsTuple "dict_itemiterator" = true by decide,if_true];show wpAny _ _ (if(Value.ref d == Value.none)=true then _ else _) _ _ _;rw[if_neg (show ¬((Value.ref d == Value.none)=true) from Bool.false_ne_true)]
 refine wpAny_bind (wpAny_pure (wpAny_bind (wpAny_dictEntries gd dt ?_)));rw[if_neg (by simp)];refine wpAny_bind (wpAny_pure (wpAny_bind (wpAny_dictEpoch gd dt ?_)));rw[if_neg (by simp)];refine wpAny_pure ?_
 simp only[show ¬((i:Int)<0) from by omega,if_false,toNat_natCast,hx];refine wpAny_bind ?_
 first|refine wpAny_bind (wpAny_typeNameOfWhole_itemiter ty (wpAny_pure (wpAny_bind (wpAny_isOneOf_itemiter ty ?_))))|refine wpAny_bind (wpAny_typeNameOf_itemiter ty (wpAny_pure (wpAny_bind (wpAny_isOneOf_itemiter ty ?_))))
 show wpAny _ _ (setField (.ref it) 3 (rawInt ((i:Int)+1)) >>= _) _ _ ⟨hp,g,dr,tk,os⟩;refine wpAny_bind (wpAny_setField_rec hit (by simp) λm1 k1 b1=>?_)
 replace b1:Heap.SameBut it hp m1:=b1
 replace k1:CF m1 it d (i+1) es.size ep ok ov f0 f1:=by
  have z:((i+1:Nat):Int)=(i:Int)+1:=by omega
  unfold CF;rw[z];simpa [rawInt] using k1
 have ty1:Shared.TypeIs ⟨m1,g,dr,tk,os⟩ (.ref it) "dict_itemiterator" := ⟨_,k1,rfl⟩;refine wpAny_bind (wpAny_holding (wpAny_bind (wpAny_isOneOf_itemiter ty1 (wpAny_bind (wpAny_isOneOf_itemiter ty1 ?_)))));show wpAny _ _ (Builtin.Dict_items.pairFromOwner (.ref it) 6 e.key e.val) _ _ ⟨m1,g,dr,tk,os⟩;unfold Builtin.Dict_items.pairFromOwner;refine wpAny_bind (wpAny_newTuple ?_);have k2:CF (m1.push {cls:=.type "tuple",data:=.seq #[e.key,e.val]}) it d (i+1) es.size ep ok ov f0 f1:=get?_push_of_some _ k1;generalize hm:m1.push {cls:=.type "tuple",data:=.seq #[e.key,e.val]}=m2 at k2;have z1:m1.objs.size=hp.objs.size:=b1.1;have il:hp.objs.size≠it:=ne_of_gt (lt_size hit);have t2:m2.get? hp.objs.size=some {cls:=.type "tuple",data:=.seq #[e.key,e.val]}:=by rw[←hm,←z1];exact get?_push_size _ rfl
 have z2:m2.objs.size=hp.objs.size+1:=by rw[←hm,size_push,z1]
 have o2:∀b o,b≠it->hp.get? b=some o->m2.get? b=some o:=λb o hb z=>by rw[←hm];exact get?_push_of_some _ (b1.extBut b o hb z)
 show wpAny _ _ (Builtin.Dict_items.ownedTupleIsFree (.ref it) >>= _) _ _ ⟨m2,g,dr,tk,os⟩;rw[z1];refine wpAny_bind ?_;unfold Builtin.Dict_items.ownedTupleIsFree;clear hm k1 b1 ty1 z1;have fin:∀(m3:Heap) ok' ov' g0 g1,CF m3 it d (i+1) es.size ep ok' ov' g0 g1->(g0=rawInt hp.objs.size\/∃(a:Addr)(oa:Obj),g0=rawInt a/\f0=rawInt a/\hp.get? a=some oa/\a≠it)->Heap.SameBut it m2 m3->Q (some (.ref hp.objs.size)) ⟨m3,g,dr,tk,os⟩:=λm3 ok' ov' g0 g1 k3 hg b3=>
  hQ m3 ok' ov' g0 g1 k3 hg (b3.extBut _ _ il t2) (by show m3.objs.size=_;rw[b3.1,z2]) λb o hb z=>b3.extBut b o hb (o2 b o hb z)
 rcases hf with rfl|⟨a,oa,rfl,ha,hne⟩
 ·refine wpAny_bind (wpAny_field k2 rfl (x:=.none) rfl (wpAny_pure ?_));simp only[if_true];refine wpAny_bind (wpAny_field k2 rfl (x:=ok) rfl (wpAny_bind (wpAny_field k2 rfl (x:=ov) rfl (wpAny_bind (wpAny_setField_rec k2 (by simp) λm3 k3 b3=>?_)))))
  replace k3:CF m3 it d (i+1) es.size ep e.key ov .none f1:=k3
  refine wpAny_bind (wpAny_setField_rec k3 (by simp) λm4 k4 b4=>?_)
  replace k4:CF m4 it d (i+1) es.size ep e.key e.val .none f1:=k4
  refine wpAny_bind (wpAny_setField_rec k4 (by simp) λm5 k5 b5=>?_)
  replace k5:CF m5 it d (i+1) es.size ep e.key e.val (rawInt hp.objs.size) f1:=k5
  refine wpAny_bind (wpAny_setField_rec k5 (by simp) λm6 k6 b6=>?_)
  have sm:Heap.SameBut it m2 m6:=⟨b6.1.trans (b5.1.trans (b4.1.trans b3.1)),λc hc=>(b6.2 c hc).trans ((b5.2 c hc).trans ((b4.2 c hc).trans (b3.2 c hc)))⟩;exact wpAny_bind (wpAny_letGo (wpAny_pure (wpAny_pure ⟨_,rfl,wpAny_pure (fin m6 _ _ _ _ k6 (.inl rfl) sm)⟩)))
 ·refine wpAny_bind (wpAny_field k2 rfl (x:=rawInt a) rfl ?_);show wpAny _ _ (loadIfAlive ((a:Int).toNat) >>= _) _ _ _;rw[toNat_natCast];refine wpAny_bind (PySem.W.kdx_alive (o2 a oa hne ha) ?_);simp only[Option.isNone_some,Bool.false_eq_true,if_false];refine wpAny_bind (wpAny_field k2 rfl (x:=.bool f1) rfl ?_);cases f1 with
  |true=>
   rw[if_neg (show ¬((Value.bool true != Value.bool true)=true) from Bool.false_ne_true)];refine wpAny_pure ?_;simp only[Bool.false_eq_true,if_false];exact wpAny_pure (wpAny_pure ⟨_,rfl,wpAny_pure (fin m2 _ _ _ _ k2 (.inr ⟨a,oa,rfl,rfl,ha,hne⟩) (Heap.SameBut.refl _ _))⟩)
  |false=>
   rw[if_pos (show(Value.bool false != Value.bool true)=true from rfl)];refine wpAny_bind (wpAny_setField_rec k2 (by simp) λm3 k3 b3=>?_);refine wpAny_pure ?_;simp only[Bool.false_eq_true,if_false]
   exact wpAny_pure (wpAny_pure ⟨_,rfl,wpAny_pure (fin m3 _ _ _ _ k3 (.inr ⟨a,oa,rfl,rfl,ha,hne⟩) b3)⟩)
theorem Ey{Q:Option Value->Shared->Prop}(hh:A.handled=none)(hit:CF s.heap it d i es.size ep ok ov f0 f1)(gd:s.heap.get? d=some od)(dt:od.data=.dict es ep)(ge:es.size<=i)
  (hQ:∀h',Heap.ExtBut it s.heap h'->Q none {s with heap:=h'}):wpAny (model prog w) A (pyNext (.ref it)) Q E s:=by
 have ty:s.TypeIs (.ref it) "dict_itemiterator" := ⟨_,hit,rfl⟩;unfold pyNext;refine wpAny_bind (wpAny_attempt (wpAny_callSpecial?_slot (name:=Str.ofString "__next__") ty F.slot_dict_itemiterator_next (wpAny_call_entry F.slot_dict_itemiterator_next ty F.entry_dict_itemiterator_next ?_ (F.args_dict_itemiterator_next_1 _))));refine wpAny_bind (wpAny_pure (wpAny_bind (wpAny_bind ?_)))
 first|refine wpAny_bind (wpAny_typeNameOfWhole_itemiter ty (wpAny_pure (wpAny_bind (wpAny_fieldsOf hit rfl ?_))))|refine wpAny_bind (wpAny_typeNameOf_itemiter ty (wpAny_pure (wpAny_bind (wpAny_fieldsOf hit rfl ?_))))
 simp only[show Builtin.Dict_items.ownsTuple "dict_itemiterator" = true by decide,if_true];show wpAny _ _ (if(Value.ref d == Value.none)=true then _ else _) _ _ _;rw[if_neg (show ¬((Value.ref d == Value.none)=true) from Bool.false_ne_true)]
 refine wpAny_bind (wpAny_pure (wpAny_bind (wpAny_dictEntries gd dt ?_)));rw[if_neg (by simp)];refine wpAny_bind (wpAny_pure (wpAny_bind (wpAny_dictEpoch gd dt ?_)));rw[if_neg (by simp)];refine wpAny_pure ?_
 simp only[show ¬((i:Int)<0) from by omega,if_false,toNat_natCast,Array.getElem?_eq_none ge];refine wpAny_bind ?_
 first|refine wpAny_bind (wpAny_typeNameOfWhole_itemiter ty (wpAny_pure ?_))|refine wpAny_bind (wpAny_typeNameOf_itemiter ty (wpAny_pure ?_))
 show wpAny _ _ (setField (.ref it) 2 .none >>= _) _ _ s;refine wpAny_bind (wpAny_setField hit rfl (by simp) ?_)
 show wpAny _ _ (newExc (.type "StopIteration") [] >>= _) _ _ _;refine wpAny_bind ?_;simp only[newExc,newTuple];refine wpAny_bind (wpAny_newObj_type ?_ (by size_fits));refine wpAny_bind (m:=firstArgMember _ _) (wpAny_of_eq (a:=Value.none) (by first|rfl|(simp only[firstArgMember];rfl)) (wpAny_newObj_type ?_ (by size_fits)))
 simp only[raiseNew];refine wpAny_bind (wpAny_handled ?_);rw[show A.in1.handled=none from hh];refine wpAny_bind (wpAny_pure (wpAny_throw ?_));refine wpAny_bind (wpAny_isInstance (T := "StopIteration") (b:=true) ⟨_,get?_push_size _ rfl,rfl⟩ isSubtype_stop ?_);exact wpAny_pure (hQ _ (((Heap.SameBut.update ..).extBut.push _).push _))
end
def CG(h:Heap)(it d S:Addr)(i n ep:Nat):Prop:=∃ok ov f0 f1,CF h it d i n ep ok ov f0 f1/\(f0=.none\/∃(a:Addr)(oa:Obj),f0=rawInt a/\h.get? a=some oa/\a≠it/\a≠S)
theorem CG.keep{h h':Heap}{it d S:Addr}{i n ep:Nat}(x:CG h it d S i n ep)(k:∀b o,b≠S->h.get? b=some o->h'.get? b=some o)(hI:it≠S):CG h' it d S i n ep:=by
 obtain⟨ok,ov,f0,f1,e,f⟩:=x;refine⟨ok,ov,f0,f1,k _ _ hI e,?_⟩;rcases f with f|⟨a,oa,f,ha,h1,h2⟩
 ·exact .inl f
 ·exact .inr ⟨a,oa,f,k _ _ h2 ha,h1,h2⟩
structure DG(es:Array DictEntry)(lo:Addr)(h:Heap)(ts:List Addr):Prop where
 rise:ts.Pairwise (· < ·)
 above:∀a∈ts,lo<a
 pairs:∀(j:Nat)(a:Addr),ts[j]?=some a->∃e,es[j]?=some e/\h.get? a=some {cls:=.type "tuple",data:=.seq #[e.key,e.val]}
section
variable{prog:Program}{w:World}{A:Around}{s:Shared}{d:Addr}{od:Obj}{es:Array DictEntry}{ep:Nat}{R:Result->Shared->Prop}
theorem Ez{S I:Addr}(hh:A.handled=none)(hSI:S<I)(hSd:d≠S)(hId:d≠I)(dt:od.data=.dict es ep)(hn:es.size<=sizeLine)(res:Value){h₁:Heap}
  (hR:∀h' tk acc c ts,(∀b o,b≠S->b≠I->h₁.get? b=some o->h'.get? b=some o)->h'.get? S=some {cls:=.type "list",dict:=none,data:=.seq acc c,slots:=#[]}->ts.length=es.size->DG es I h' ts->acc.toList=ts.map Value.ref->R (.ok (.ret res)) {s with heap:=h',toks:=tk}):
  ∀(k i:Nat)(h:Heap)(tk c:Nat)(acc:Array Value)(ts:List Addr),es.size - i=k->i<=es.size->CG h I d S i es.size ep->h.get? d=some od->(∀b o,b≠S->b≠I->h₁.get? b=some o->h.get? b=some o)->
   h.get? S=some {cls:=.type "list",dict:=none,data:=.seq acc c,slots:=#[]}->acc.toList=ts.map Value.ref->ts.length=i->DG es I h ts->I<h.objs.size->
   codeAny (model prog w) A (.builtin "list.extend.loop" ⟨[.ref S,.ref I,res],[]⟩) R {s with heap:=h,toks:=tk}:=by
 have hne:S≠I:=ne_of_lt hSI;intro k
 induction k with
 |zero=>
  intro i h tk c acc ts hk hi hst gd keep hS hacc hal hG hlt;obtain⟨ok,ov,f0,f1,hit,_⟩:=hst;refine codeAny_builtin PySem.F.entry_extend_loop ?_;rw[Around.under_plainId PySem.F.plain_extend_loop _];show wpAny _ A.in1 (pyNext (.ref I) >>= _) _ _ _;refine wpAny_bind (Ey (s:={s with heap:=h,toks:=tk}) (A:=A.in1) hh hit gd dt (by omega) λh' he=>?_)
  refine wpAny_pure (hR h' tk acc c ts (λb o h1 h2 e=>he b o h2 (keep b o h1 h2 e)) (he S _ hne hS) (by omega) ⟨hG.rise,hG.above,λj a hj=>?_⟩ hacc)
  obtain⟨e,e1,e2⟩:=hG.pairs j a hj;exact⟨e,e1,he a _ (ne_of_gt (hG.above a (mem_of_getElem? hj))) e2⟩
 |succ k ih=>
  intro i h tk c acc ts hk hi hst gd keep hS hacc hal hG hlt;have hlt':i<es.size:=by omega
  have hx:es[i]?=some es[i]:=Array.getElem?_eq_getElem hlt';have hsz:acc.size=i:=by rw[←length_toList,hacc,length_map,hal]
  have hSl:S<h.objs.size:=lt_size hS;obtain⟨ok,ov,f0,f1,hit,hf⟩:=hst;refine codeAny_builtin PySem.F.entry_extend_loop ?_;rw[Around.under_plainId PySem.F.plain_extend_loop _];show wpAny _ A.in1 (pyNext (.ref I) >>= _) _ _ _;refine wpAny_bind (EB (s:={s with heap:=h,toks:=tk}) hit gd dt hx (hf.imp_right λ⟨a,oa,z1,z2,z3,_⟩=>⟨a,oa,z1,z2,z3⟩) λh' ok' ov' g0 g1 hit' hg ht hz hkp=>?_);dsimp only at hg ht hz hkp ⊢;have hS':=hkp S _ hne hS;have up:∀b o,b≠S->h'.get? b=some o->(h'.update S (Obj.mapSeq (·.push (Value.ref h.objs.size)))).get? b=some o:=λb o hb e=>(get?_update_other _ _ (Ne.symm hb)).trans e;have st':CG h' I d S (i+1) es.size ep:=by
   refine⟨ok',ov',g0,g1,hit',.inr ?_⟩;rcases hg with rfl|⟨a,oa,rfl,z2,z3,z4⟩
   ·exact⟨h.objs.size,_,rfl,ht,ne_of_gt hlt,ne_of_gt hSl⟩
   ·rcases hf with y|⟨a',oa',y1,y2,y3,y4⟩
    ·rw[y] at z2;cases z2
    ·rw[y1] at z2;have za:a'=a:=by unfold rawInt at z2;injection z2 with z2 _;exact Int.ofNat.inj z2
     subst za;exact⟨a',oa,rfl,hkp _ _ z4 z3,z4,y4⟩
  show wpAny _ A.in1 (updateSeq S (·.push (Value.ref h.objs.size)) >>= _) _ _ _;refine wpAny_bind ?_;refine wpAny_updateSeq hS' rfl (wpAny_pure ⟨plainId_quiet PySem.F.plain_extend_loop _,ih (i+1) _ tk _ (acc.push (Value.ref h.objs.size)) (ts++[h.objs.size]) (by omega) hlt' (st'.keep up (Ne.symm hne)) (up d od hSd (hkp d od hId gd)) (λb o h1 h2 e=>up b o h1 (hkp b o h2 (keep b o h1 h2 e)))
   (get?_update_self _ hS' rfl) (by rw[Array.toList_push,hacc,map_append];rfl) (by rw[length_append,hal];rfl) ⟨?_,?_,?_⟩ ?_⟩) (by rw[hsz];omega) (by show(acc.push (Value.ref h.objs.size)).size<=sizeLine+1;rw[Array.size_push,hsz];omega)
  ·refine List.pairwise_append.mpr ⟨hG.rise,List.pairwise_singleton _ _,λa ha b hb=>?_⟩;rw[mem_singleton.mp hb];obtain⟨j,hj⟩:=List.mem_iff_getElem?.mp ha;obtain⟨_,_,z⟩:=hG.pairs j a hj;exact lt_size z
  ·intro a ha;rcases mem_append.mp ha with ha|ha
   ·exact hG.above a ha
   ·rw[mem_singleton.mp ha];exact hlt
  ·intro j b hj;by_cases h1:j<ts.length
   ·rw[getElem?_append_left h1] at hj;obtain⟨e,e1,e2⟩:=hG.pairs j b hj;have hb:=hG.above b (mem_of_getElem? hj);exact⟨e,e1,up b _ (ne_of_gt (lt_trans hSI hb)) (hkp b _ (ne_of_gt hb) e2)⟩
   ·rw[getElem?_append_right (by omega)] at hj
    have hj0:j - ts.length=0:=by
     have:=(List.getElem?_eq_some_iff.mp hj).1;rw[length_singleton] at this;omega
    rw[hj0] at hj;cases hj;exact⟨es[i],by rw[show j=i by omega];exact hx,up _ _ (ne_of_gt hSl) ht⟩
  ·rw[(Heap.SameBut.update ..).1,hz];exact Nat.lt_succ_of_lt hlt
variable{E:Value->Shared->Prop}{r:Addr}
theorem EC{Q:Value->Shared->Prop}(hh:A.handled=none)(hv:s.heap.IsItemsView r d)(gd:s.heap.get? d=some od)(dt:od.data=.dict es ep)(hn:es.size<=sizeLine)
  (hQ:∀h' tk acc c ts,(∀b o,s.heap.get? b=some o->h'.get? b=some o)->h'.get? s.heap.objs.size=some {cls:=.type "list",dict:=none,data:=.seq acc c,slots:=#[]}->ts.length=es.size->DG es s.heap.objs.size h' ts->acc.toList=ts.map Value.ref->Q (.ref s.heap.objs.size) {s with heap:=h',toks:=tk}):
  wpAny (model prog w) A (call (.type "list") [.ref r]) Q E s:=by
 refine callType_codes (Q₁:=λobj s₁=>obj=.ref s.heap.objs.size/\s₁={s with heap:=s.heap.push {cls:=.type "list",data:=.seq #[]}}) PySem.F.called_list (PySem.F.typeCall_list_1 _) PySem.F.entry_list_init (code_list_new _ ⟨rfl,rfl⟩) λobj s₁ h₁=>?_;obtain⟨rfl,rfl⟩:=h₁;have hS:(s.heap.push {cls:=.type "list",data:=.seq #[]}).get? s.heap.objs.size=some {cls:=.type "list",data:=.seq #[]}:=get?_push_size _ rfl;have hrl:r<s.heap.objs.size:=let ⟨_,ho,_⟩:=hv;lt_size ho;have hdl:d<s.heap.objs.size:=lt_size gd;generalize hS0:s.heap.objs.size=S at hS hrl hdl;have old:∀b o,s.heap.get? b=some o->b≠S:=λb o e=>hS0▸ne_of_lt (lt_size e);refine⟨⟨_,hS,rfl⟩,PySem.F.args_list_init_2 _ _,?_⟩;show wpAny _ A.in1.in1 (do let old ←Builtin.List.listItems (.ref S);Builtin.List.listUpdate (.ref S) (λ_=>#[]);letGo old.toList.reverse;Builtin.List.listExtendWith (.ref S) (.ref r) .none) _ _ {s with heap:=s.heap.push {cls:=.type "list",data:=.seq #[]}}
 refine wpAny_bind ?_;unfold Builtin.List.listItems;refine wpAny_bind (wpAny_seqItems hS rfl (wpAny_pure ?_));show wpAny _ _ (updateSeq S (λ_=>#[]) >>= λ_=>letGo (#[]:Array Value).toList.reverse >>= λ_=>Builtin.List.listExtendWith (.ref S) (.ref r) .none) _ _ _;refine wpAny_bind (wpAny_updateSeq hS rfl ?_);have hS2:=get?_update_self (Obj.mapSeq (λ_=>(#[]:Array Value))) hS rfl;have z2:((s.heap.push {cls:=.type "list",data:=.seq #[]}).update S (Obj.mapSeq (λ_=>(#[]:Array Value)))).objs.size=S+1:=by rw[(Heap.SameBut.update ..).1,size_push,hS0]
 have o2:∀b o,s.heap.get? b=some o->((s.heap.push {cls:=.type "list",data:=.seq #[]}).update S (Obj.mapSeq (λ_=>(#[]:Array Value)))).get? b=some o:=λb o e=>(get?_update_other _ _ (Ne.symm (old b o e))).trans (get?_push_of_some _ e);generalize (s.heap.push {cls:=.type "list",data:=.seq #[]}).update S (Obj.mapSeq (λ_=>(#[]:Array Value)))=m at hS2 z2 o2;refine wpAny_bind (wpAny_letGo ?_);unfold Builtin.List.listExtendWith;have hv2:m.IsItemsView r d:=let ⟨o,ho,x⟩:=hv;⟨o,o2 _ _ ho,x⟩;refine wpAny_bind (wpAny_typeOf (T := "dict_items") (s:={s with heap:=m,toks:=_}) hv2.typeIs ?_);simp only[show Builtin.List.listSameRef (.ref S) (.ref r)=false by simp[Builtin.List.listSameRef,ne_of_gt hrl],show(Value.type "dict_items" == Value.type "list")=false by decide,show(Value.type "dict_items" == Value.type "tuple")=false by decide,Bool.or_false,Bool.false_eq_true,if_false]
 refine wpAny_bind (EA (s:={s with heap:=m,toks:=_}) hv2 (o2 _ _ gd) dt ?_);have hS3:=get?_push_of_some {cls:=.type "dict_itemiterator",data:=.fields #[.none,.bool false,.ref d,.int 0 0,.int es.size 0,.int ep 0,.none,.none]} hS2;have key:∀(h:Heap)(c₁ tk:Nat),(∀b o,b≠S->(m.push {cls:=.type "dict_itemiterator",data:=.fields #[.none,.bool false,.ref d,.int 0 0,.int es.size 0,.int ep 0,.none,.none]}).get? b=some o->h.get? b=some o)->h.get? S=some {cls:=.type "list",data:=.seq #[] c₁}->
   codeAny (model prog w) A.in1 (.builtin "list.extend.loop" ⟨[.ref S,.ref m.objs.size,.none],[]⟩) (λq s'=>q=.ok (.ret .none)/\Q (.ref S) s') {s with heap:=h,toks:=tk}:=λh c₁ tk hk hS₁=>by
  have hSm:S<m.objs.size:=by rw[z2];exact Nat.lt_succ_self S
  have hdm:d<m.objs.size:=lt_trans hdl hSm;have hI:=hk m.objs.size _ (ne_of_gt hSm) (get?_push_size _ rfl);refine Ez (A:=A.in1) (prog:=prog) (w:=w) (R:=λq s'=>q=.ok (.ret .none)/\Q (.ref S) s') (s:=s) (h₁:=s.heap) hh hSm (ne_of_lt hdl) (ne_of_lt hdm) dt hn .none (λh' tk' acc c ts hk' hS' hl hG hacc=>⟨rfl,?_⟩) es.size 0 h tk c₁ #[] [] (Nat.sub_zero _) (zero_le _) ⟨.none,.none,.none,false,hI,.inl rfl⟩ (hk d od (ne_of_lt hdl) (get?_push_of_some _ (o2 _ _ gd)))
   (λb o hb _ e=>hk b o hb (get?_push_of_some _ (o2 _ _ e))) hS₁ rfl rfl ⟨List.Pairwise.nil,(λ_ ha=>nomatch ha),(λj a hj=>by simp at hj)⟩ (lt_size hI)
  subst hS0;exact hQ h' tk' acc c ts (λb o e=>hk' b o (old b o e) (ne_of_lt (lt_trans (lt_size e) hSm)) e) hS' hl ⟨hG.rise,λa ha=>lt_trans hSm (hG.above a ha),hG.pairs⟩ hacc
 refine wpAny_bind (wpAny_holding (PySem.W.kdx_hint (let ⟨o,ho,hc,_⟩:=hv2;⟨o,get?_push_of_some _ ho,hc⟩) ?_));refine wpAny_ite_split (λ_=>?_) (λ_=>wpAny_pure ⟨plainId_quiet PySem.F.plain_extend_loop _,codeAny_mono (key _ _ _ (λb o _ e=>e) hS3) λq s' ⟨eq,z⟩=>by subst eq;exact⟨rfl,z⟩⟩)
 refine wpAny_bind (wpAny_rule (wpAny_bind ?_));show wpAny _ _ (updateSeq S (·.push .none) >>= λ_=>updateSeq S (·.pop)) _ _ _;refine wpAny_bind (wpAny_updateSeq hS3 rfl ?_);have hS4:=get?_update_self (Obj.mapSeq (·.push Value.none)) hS3 rfl;refine wpAny_updateSeq (hz:=by seq_fits) hS4 rfl ?_
 have hS5:=get?_update_self (Obj.mapSeq (·.pop)) hS4 rfl;exact wpAny_pure ⟨plainId_quiet PySem.F.plain_extend_loop _,codeAny_mono (key _ _ _ (λb o hb e=>(get?_update_other _ _ (Ne.symm hb)).trans ((get?_update_other _ _ (Ne.symm hb)).trans e)) hS5) λq s' ⟨eq,z⟩=>by subst eq;exact⟨rfl,z⟩⟩
end
end L2
namespace L3
open PySem PySem.Spec PyProof.Rows L2
structure Ct where
 K:Frag
 cls:String->Addr
 clo:Nat->Hp->Addr->List V->Prop
 cloM:∀{k:Nat}{H H':Hp}{a:Addr}{xs:List V},aB H H'->clo k H a xs->clo k H' a xs
 tb:Hp
 opq:∀H a,clo DK H a []
mutual
def Rep(Γ:Ct)(H:Hp):D->V->Prop
 |.non,v=>v=.non
 |.bl b,v=>v=.bl b
 |.int i,v=>v=.int i
 |.str x,v=>v=.str x
 |.tup ds,v=>∃a xs,v=.ref a/\jP Γ.K H a xs/\RepL Γ H ds xs
 |.lst ds,v=>∃a xs,v=.ref a/\jE Γ.K H a xs/\RepL Γ H ds xs
 |.obj c ns ds,v=>∃a dx xs,v=.ref a/\H a=some (.ins (Γ.cls c) dx (ns.zip xs))/\RepL Γ H ds xs
 |.fn k ds,v=>∃a xs,v=.ref a/\Γ.clo k H a xs/\RepL Γ H ds xs
def RepL(Γ:Ct)(H:Hp):List D->List V->Prop
 |[],xs=>xs=[]
 |d::ds,xs=>∃x r,xs=x::r/\Rep Γ H d x/\RepL Γ H ds r
end
theorem bA{K:Frag}{H H':Hp}{a:Addr}{xs:List V}(e:aB H H')(h:jP K H a xs):jP K H' a xs:=by
 rcases h with(h|⟨o,h⟩)|h
 ·exact .inl (.inl (e _ _ h))
 ·exact .inl (.inr ⟨o,e _ _ h⟩)
 ·exact .inr h
mutual
theorem Rep.mono{Γ:Ct}{H H':Hp}(e:aB H H'):∀{d:D}{v:V},Rep Γ H d v->Rep Γ H' d v
 |.non,_,r=>by unfold Rep at r ⊢;exact r
 |.bl _,_,r=>by unfold Rep at r ⊢;exact r
 |.int _,_,r=>by unfold Rep at r ⊢;exact r
 |.str _,_,r=>by unfold Rep at r ⊢;exact r
 |.tup ds,_,r=>by
  unfold Rep at r ⊢;obtain⟨a,xs,e1,q,r⟩:=r;exact⟨a,xs,e1,bA e q,RepL.mono e r⟩
 |.lst ds,_,r=>by
  unfold Rep at r ⊢;obtain⟨a,xs,e1,q,r⟩:=r;exact⟨a,xs,e1,aB.seq e q,RepL.mono e r⟩
 |.obj c ns ds,_,r=>by
  unfold Rep at r ⊢;obtain⟨a,dx,xs,e1,q,r⟩:=r;exact⟨a,dx,xs,e1,e _ _ q,RepL.mono e r⟩
 |.fn k ds,_,r=>by
  unfold Rep at r ⊢;obtain⟨a,xs,e1,q,r⟩:=r;exact⟨a,xs,e1,Γ.cloM e q,RepL.mono e r⟩
theorem RepL.mono{Γ:Ct}{H H':Hp}(e:aB H H'):∀{ds:List D}{xs:List V},RepL Γ H ds xs->RepL Γ H' ds xs
 |[],_,r=>by unfold RepL at r ⊢;exact r
 |d::ds,_,r=>by
  unfold RepL at r ⊢;obtain⟨x,r',e1,q,r2⟩:=r;exact⟨x,r',e1,Rep.mono e q,RepL.mono e r2⟩
end
section
variable{Γ:Ct}{H H':Hp}
theorem bc{v:V}:Rep Γ H .non v↔v=.non:=by unfold Rep;exact Iff.rfl
theorem az{b:Bool}{v:V}:Rep Γ H (.bl b) v↔v=.bl b:=by unfold Rep;exact Iff.rfl
theorem ai{i:Int}{v:V}:Rep Γ H (.int i) v↔v=.int i:=by unfold Rep;exact Iff.rfl
theorem aK{x:Str}{v:V}:Rep Γ H (.str x) v↔v=.str x:=by unfold Rep;exact Iff.rfl
theorem aF{ds:List D}{v:V}:Rep Γ H (.tup ds) v↔∃a xs,v=.ref a/\jP Γ.K H a xs/\RepL Γ H ds xs:=by
 constructor
 ·intro h;unfold Rep at h;exact h
 ·intro h;unfold Rep;exact h
theorem aT{ds:List D}{v:V}:Rep Γ H (.lst ds) v↔∃a xs,v=.ref a/\jE Γ.K H a xs/\RepL Γ H ds xs:=by
 constructor
 ·intro h;unfold Rep at h;exact h
 ·intro h;unfold Rep;exact h
theorem hV{c:String}{ns:List Str}{ds:List D}{v:V}:Rep Γ H (.obj c ns ds) v↔∃a dx xs,v=.ref a/\H a=some (.ins (Γ.cls c) dx (ns.zip xs))/\RepL Γ H ds xs:=by
 constructor
 ·intro h;unfold Rep at h;exact h
 ·intro h;unfold Rep;exact h
theorem kY{k:Nat}{ds:List D}{v:V}:Rep Γ H (.fn k ds) v↔∃a xs,v=.ref a/\Γ.clo k H a xs/\RepL Γ H ds xs:=by
 constructor
 ·intro h;unfold Rep at h;exact h
 ·intro h;unfold Rep;exact h
theorem bQ{xs:List V}:RepL Γ H [] xs↔xs=[]:=by unfold RepL;exact Iff.rfl
theorem aJ{d:D}{ds:List D}{xs:List V}:RepL Γ H (d::ds) xs↔∃x r,xs=x::r/\Rep Γ H d x/\RepL Γ H ds r:=by
 constructor
 ·intro h;unfold RepL at h;exact h
 ·intro h;unfold RepL;exact h
theorem RepL.nil:RepL Γ H [] []:=bQ.mpr rfl
theorem RepL.cons{d:D}{ds:List D}{x:V}{xs:List V}(h:Rep Γ H d x)(t:RepL Γ H ds xs):RepL Γ H (d::ds) (x::xs):=aJ.mpr ⟨x,xs,rfl,h,t⟩
theorem RepL.length:∀{ds:List D}{xs:List V},RepL Γ H ds xs->ds.length=xs.length
 |[],xs,h=>by rw[bQ.mp h];rfl
 |d::ds,xs,h=>by
  obtain⟨x,r,e,_,t⟩:=aJ.mp h;rw[e,length_cons,length_cons,RepL.length t]
theorem RepL.append:∀{ds es:List D}{xs ys:List V},RepL Γ H ds xs->RepL Γ H es ys->RepL Γ H (ds++es) (xs++ys)
 |[],es,xs,ys,h,h'=>by rw[bQ.mp h];exact h'
 |d::ds,es,xs,ys,h,h'=>by
  obtain⟨x,r,e,q,t⟩:=aJ.mp h;rw[e];exact .cons q (RepL.append t h')
theorem RepL.get:∀{ds:List D}{xs:List V}{i:Nat}{d:D},RepL Γ H ds xs->ds[i]?=some d->∃x,xs[i]?=some x/\Rep Γ H d x
 |[],xs,i,d,h,e=>by simp at e
 |d::ds,xs,0,d',h,e=>by
  obtain⟨x,r,e1,q,t⟩:=aJ.mp h;simp at e;subst e e1;exact⟨x,rfl,q⟩
 |d::ds,xs,i+1,d',h,e=>by
  obtain⟨x,r,e1,q,t⟩:=aJ.mp h;obtain⟨y,e2,q2⟩:=RepL.get (i:=i) t (by simpa using e)
  subst e1;exact⟨y,by simpa using e2,q2⟩
theorem RepL.take:∀{ds:List D}{xs:List V}(n:Nat),RepL Γ H ds xs->RepL Γ H (ds.take n) (xs.take n)
 |_,_,0,_=>.nil
 |[],xs,n+1,h=>by rw[bQ.mp h];exact .nil
 |d::ds,xs,n+1,h=>by
  obtain⟨x,r,e,q,t⟩:=aJ.mp h;subst e;exact .cons q (RepL.take n t)
theorem RepL.drop:∀{ds:List D}{xs:List V}(n:Nat),RepL Γ H ds xs->RepL Γ H (ds.drop n) (xs.drop n)
 |_,_,0,h=>h
 |[],xs,n+1,h=>by rw[bQ.mp h];exact .nil
 |d::ds,xs,n+1,h=>by
  obtain⟨x,r,e,q,t⟩:=aJ.mp h;subst e;exact RepL.drop n t
theorem RepL.rep{ds:List D}{xs:List V}(h:RepL Γ H ds xs):∀k:Nat,RepL Γ H (replicate k ds).flatten (replicate k xs).flatten
 |0=>.nil
 |k+1=>by
  rw[replicate_succ,replicate_succ,flatten_cons,flatten_cons];exact h.append (RepL.rep h k)
theorem RepL.set{d:D}{x:V}(q:Rep Γ H d x):∀{ds:List D}{xs:List V}(i:Nat),RepL Γ H ds xs->RepL Γ H (ds.set i d) (xs.set i x)
 |[],xs,i,h=>by rw[bQ.mp h];exact .nil
 |e::ds,xs,0,h=>by
  obtain⟨y,r,e1,_,t⟩:=aJ.mp h;subst e1;exact .cons q t
 |e::ds,xs,i+1,h=>by
  obtain⟨y,r,e1,q1,t⟩:=aJ.mp h;subst e1;exact .cons q1 (RepL.set q i t)
theorem RepL.ints:∀(ns:List Int),RepL Γ H (ns.map D.int) (ns.map V.int)
 |[]=>.nil
 |n::ns=>.cons (ai.mpr rfl) (RepL.ints ns)
theorem rep_flat{d:D}{v:V}(h:Rep Γ H d v)(f:flat d=true):Rep Γ H' d v:=by
 cases d with
 |non=>exact bc.mpr (bc.mp h)
 |bl _=>exact az.mpr (az.mp h)
 |int _=>exact ai.mpr (ai.mp h)
 |str _=>exact aK.mpr (aK.mp h)
 |_=>cases f
end
def lL(Γ:Ct)(Hs:Hp):O->HO->Prop
 |.lst ds,ho=>∃xs,ho=.lst xs/\RepL Γ Hs ds xs
 |.obj c ns ds,ho=>∃dx xs,ho=.ins (Γ.cls c) dx (ns.zip xs)/\RepL Γ Hs ds xs
 |.dic _,_=>False
 |.par _ _,_=>False
 |.fdic _,_=>False
 |.tab _,_=>False
 |.dik kvs,ho=>ho=.dK (kvs.map λp=>(Sum.inl p.1,V.int p.2))
def Kf(kvs:List (List Int×Int)):List (List Key×V):=kvs.map λp=>(p.1.map Sum.inl,V.int p.2)
def fP(Γ:Ct)(H:Hp)(kvs:List (D×D))(xs:List (D×Addr×Value)):Prop:=Paired (λp q=>p.1=q.1/\okT p.1=true/\Rep Γ H p.1 (.ref q.2.1)/\∃v,RelV v q.2.2/\Rep Γ H p.2 v) kvs xs
theorem fP.mono{Γ:Ct}{H H':Hp}(e:aB H H'){kvs:List (D×D)}{xs:List (D×Addr×Value)}(h:fP Γ H kvs xs):fP Γ H' kvs xs:=Paired.mapP h λp q ⟨h1,h2,h3,v,h4,h5⟩=>⟨h1,h2,h3.mono e,v,h4,h5.mono e⟩
def cX(Γ:Ct)(Hs:Hp)(a:Addr):O->HO->Prop
 |.lst ds,ho=>∃xs,ho=.lst xs/\RepL Γ Hs ds xs
 |.obj c ns ds,ho=>∃dx xs,ho=.ins (Γ.cls c) dx (ns.zip xs)/\RepL Γ Hs ds xs
 |.dic kvs,ho=>ho=.dT (Kf kvs)
 |.par b o,ho=>a=b/\cX Γ Hs a o ho
 |.fdic kvs,ho=>∃ob,ho=.frz ob (.dT (Kf kvs))
 |.tab kvs,ho=>∃xs,ho=.ext (fU a xs)/\fP Γ Hs kvs xs
 |.dik kvs,ho=>ho=.dK (kvs.map λp=>(Sum.inl p.1,V.int p.2))
theorem lL.w{Γ:Ct}{H:Hp}{o:O}{ho:HO}{a:Addr}(h:lL Γ H o ho):cX Γ H a o ho:=by
 cases o with
 |lst ds=>exact h
 |obj c ns ds=>exact h
 |dik _=>exact h
 |_=>exact h.elim
theorem cX.o{Γ:Ct}{H:Hp}{o:O}{ho:HO}{a:Addr}(h:cX Γ H a o ho)(n:∀kvs,o≠.dic kvs)(n2:∀b u,o≠.par b u)(n3:∀kvs,o≠.fdic kvs)(n4:∀kvs,o≠.tab kvs):lL Γ H o ho:=by
 cases o with
 |lst ds=>exact h
 |obj c ns ds=>exact h
 |dic kvs=>exact(n kvs rfl).elim
 |par b u=>exact(n2 b u rfl).elim
 |fdic kvs=>exact(n3 kvs rfl).elim
 |tab kvs=>exact(n4 kvs rfl).elim
 |dik _=>exact h
theorem cX.mono{Γ:Ct}{H H':Hp}(e:aB H H'){a:Addr}:∀{o:O}{ho:HO},cX Γ H a o ho->cX Γ H' a o ho
 |.lst ds,_,h=>by obtain⟨xs,e1,r⟩:=h;exact⟨xs,e1,r.mono e⟩
 |.obj c ns ds,_,h=>by obtain⟨dx,xs,e1,r⟩:=h;exact⟨dx,xs,e1,r.mono e⟩
 |.dic _,_,h=>h
 |.par b o,_,h=>⟨h.1,cX.mono e h.2⟩
 |.fdic _,_,h=>h
 |.tab _,_,h=>by obtain⟨xs,e1,r⟩:=h;exact⟨xs,e1,r.mono e⟩
 |.dik _,_,h=>h
theorem lL.mono{Γ:Ct}{H H':Hp}(e:aB H H'){o:O}{ho:HO}(h:lL Γ H o ho):lL Γ H' o ho:=by
 cases o with
 |dik _=>exact h
 |lst ds=>obtain⟨xs,e1,r⟩:=h;exact⟨xs,e1,r.mono e⟩
 |obj c ns ds=>obtain⟨dx,xs,e1,r⟩:=h;exact⟨dx,xs,e1,r.mono e⟩
 |_=>exact h.elim
theorem lL.val{Γ:Ct}{H:Hp}{o:O}{ho:HO}{a:Addr}(h:lL Γ H o ho)(e:H a=some ho):Rep Γ H o.val (.ref a):=by
 cases o with
 |dik _=>exact kY.mpr ⟨a,[],rfl,Γ.opq H a,.nil⟩
 |lst ds=>obtain⟨xs,e1,r⟩:=h;subst e1;exact aT.mpr ⟨a,xs,rfl,.of e,r⟩
 |obj c ns ds=>obtain⟨dx,xs,e1,r⟩:=h;subst e1;exact hV.mpr ⟨a,dx,xs,rfl,e,r⟩
 |_=>exact h.elim
structure aW(Hs H Hs' H':Hp):Prop where
 s:aB Hs Hs'
 h:aB H H'
 i:aB Hs' H'
 n:∀b o,Hs' b=some o->Hs b=some o\/H b=none
theorem aW.refl{Hs H:Hp}(e:aB Hs H):aW Hs H Hs H:=⟨.refl _,.refl _,e,λ_ _ q=>.inl q⟩
theorem aW.trans{Hs H Hs1 H1 Hs2 H2:Hp}(a:aW Hs H Hs1 H1)(b:aW Hs1 H1 Hs2 H2):aW Hs H Hs2 H2:=
 ⟨a.s.trans b.s,a.h.trans b.h,b.i,λc o q=>(b.n c o q).elim (λz=>a.n c o z) λz=>.inr (a.h.free z)⟩
theorem aW.only{Hs H H':Hp}(e:aB Hs H)(k:aB H H'):aW Hs H Hs H':=⟨.refl _,k,e.trans k,λ_ _ q=>.inl q⟩
theorem bB{H:Hp}{p:Addr}{o:HO}(h:H p=none):aB H (aS H p o):=λb u e=>by rw[ak (aC e h)];exact e
theorem aW.new{Hs H:Hp}{p:Addr}{o:HO}(e:aB Hs H)(h:H p=none):aW Hs H (aS Hs p o) (aS H p o):=
 ⟨bB (e.free h),bB h,λb u q=>by
  by_cases hb:b=p
  ·subst hb;rw[aq] at q ⊢;exact q
  ·rw[ak hb] at q ⊢;exact e _ _ q,λb u q=>by
  by_cases hb:b=p
  ·subst hb;exact .inr h
  ·rw[ak hb] at q;exact .inl q⟩
theorem aW.newOwn{Hs H:Hp}{p:Addr}{o:HO}(e:aB Hs H)(h:H p=none):aW Hs H Hs (aS H p o):=.only e (bB h)
theorem aW.share{Hs H Hs' H':Hp}{a:Addr}{ho:HO}(g:aW Hs H Hs' H')(h0:H a=none)(h1:Hs' a=none)(h2:H' a=some ho):aW Hs H (aS Hs' a ho) H'/\aB Hs' (aS Hs' a ho):=
 ⟨⟨g.s.trans (bB h1),g.h,λb u q=>by
  by_cases hb:b=a
  ·subst hb;rw[aq] at q;cases q;exact h2
  ·rw[ak hb] at q;exact g.i _ _ q,λb u q=>by
  by_cases hb:b=a
  ·subst hb;exact .inr h0
  ·rw[ak hb] at q;exact g.n _ _ q⟩,bB h1⟩
inductive Ht(Γ:Ct)(H Hs' H':Hp)(o:O)(v:V):Prop
 |mk (a:Addr) (ho:HO) (ev:v=.ref a) (h0:H a=none) (h1:Hs' a=none) (h2:H' a=some ho) (q:lL Γ Hs' o ho)
def bH(Γ:Ct)(H Hs' H':Hp):S->V->Prop
 |.sh d,v=>Rep Γ Hs' d v
 |.own o,v=>Ht Γ H Hs' H' o v
 |.two d a o,v=>Rep Γ Hs' d v/\∃ho,Hs' a=none/\H' a=some ho/\cX Γ Hs' a o ho
theorem bH.of{Γ:Ct}{H Hs' H':Hp}{d:D}{v:V}(h:Rep Γ Hs' d v):bH Γ H Hs' H' (.sh d) v:=h
theorem bH.share{Γ:Ct}{Hs H Hs' H':Hp}{s:S}{v:V}(g:aW Hs H Hs' H')(r:bH Γ H Hs' H' s v):∃Hs'',aW Hs H Hs'' H'/\aB Hs' Hs''/\Rep Γ Hs'' s.val v:=by
 cases s with
 |sh d=>exact⟨Hs',g,.refl _,r⟩
 |own o=>
  obtain⟨a,ho,rfl,h0,h1,h2,q⟩:=r;obtain⟨g',e⟩:=g.share h0 h1 h2;exact⟨_,g',e,(q.mono e).val aq⟩
 |two d a o=>exact⟨Hs',g,.refl _,r.1⟩
theorem bH.look{Γ:Ct}{Hs H Hs' H':Hp}{s:S}{v:V}(g:aW Hs H Hs' H')(r:bH Γ H Hs' H' s v):Rep Γ H' s.val v:=by
 cases s with
 |sh d=>exact Rep.mono g.i r
 |own o=>
  obtain⟨a,ho,rfl,h0,h1,h2,q⟩:=r;exact(q.mono g.i).val h2
 |two d a o=>exact Rep.mono g.i r.1
theorem bH.back{Γ:Ct}{H H1 Hs' H':Hp}{s:S}{v:V}(k:aB H H1)(r:bH Γ H1 Hs' H' s v):bH Γ H Hs' H' s v:=by
 cases s with
 |sh d=>exact r
 |own o=>
  obtain⟨a,ho,e,h0,h1,h2,q⟩:=r;exact⟨a,ho,e,k.free h0,h1,h2,q⟩
 |two d a o=>exact r
inductive Jq(Γ:Ct)(B1 Hs H:Hp)(x:Option (Option V))(o:O):Prop
 |mk (a:Addr) (ho:HO) (e1:x=some (some (.ref a))) (e2:B1 a=none) (e3:Hs a=none) (e4:H a=some ho) (q:cX Γ Hs a o ho)
structure RE(Γ:Ct)(B0 B1 Hs H:Hp)(σ:L2.St)(ρ:av):Prop where
 b:aW B0 B1 Hs H
 sh:∀(i:Nat)(d:D),ρ[i]?=some (some (.sh d))->∃v,σ[i]?=some (some v)/\Rep Γ Hs d v
 own:∀(i:Nat)(o:O),ρ[i]?=some (some (.own o))->Jq Γ B1 Hs H σ[i]? o
 apart:∀(i j:Nat)(o u:O)(a:Addr),i≠j->ρ[i]?=some (some (.own o))->ρ[j]?=some (some (.own u))->σ[i]?=some (some (.ref a))->σ[j]?≠some (some (.ref a))
 len:ρ.length=σ.length
 tb:aB Γ.tb Hs
section
variable{Γ:Ct}{B0 B1 Hs H Hs' H':Hp}{σ:L2.St}{ρ:av}
theorem RE.grow(r:RE Γ B0 B1 Hs H σ ρ)(g:aW Hs H Hs' H'):RE Γ B0 B1 Hs' H' σ ρ where
 tb:=r.tb.trans g.s
 b:=r.b.trans g
 sh:=λi d e=>let ⟨v,e1,q⟩:=r.sh i d e;⟨v,e1,q.mono g.s⟩
 own:=λi o e=>by
  obtain⟨a,ho,e1,e2,e3,e4,q⟩:=r.own i o e;refine⟨a,ho,e1,e2,?_,g.h _ _ e4,q.mono g.s⟩;cases z:Hs' a with
  |none=>rfl
  |some u=>
   rcases g.n a u z with z'|z'
   ·rw[e3] at z';cases z'
   ·rw[e4] at z';cases z'
 apart:=r.apart
 len:=r.len
theorem RE.setSh(r:RE Γ B0 B1 Hs H σ ρ){i:Nat}{d:D}{v:V}(hi:i<σ.length)(q:Rep Γ Hs d v):RE Γ B0 B1 Hs H (σ.set i (some v)) (ρ.set i (some (.sh d))) where
 tb:=r.tb
 b:=r.b
 sh:=λj e hj=>by
  by_cases h:i=j
  ·subst h;rw[getElem?_set_self (by rw[r.len];exact hi)] at hj
   cases hj;exact⟨v,getElem?_set_self hi,q⟩
  ·rw[getElem?_set_ne h] at hj ⊢;exact r.sh j e hj
 own:=λj o hj=>by
  by_cases h:i=j
  ·subst h;rw[getElem?_set_self (by rw[r.len];exact hi)] at hj
   cases hj
  ·rw[getElem?_set_ne h] at hj ⊢;exact r.own j o hj
 apart:=λj k o u a hjk hj hk ha=>by
  have n1:i≠j:=λz=>by subst z;rw[getElem?_set_self (by rw[r.len];exact hi)] at hj;cases hj
  have n2:i≠k:=λz=>by subst z;rw[getElem?_set_self (by rw[r.len];exact hi)] at hk;cases hk
  rw[getElem?_set_ne n1] at hj ha;rw[getElem?_set_ne n2] at hk ⊢;exact r.apart j k o u a hjk hj hk ha
 len:=by rw[length_set,length_set,r.len]
theorem RE.setOwn(r:RE Γ B0 B1 Hs H σ ρ){i:Nat}{o:O}{a:Addr}{ho:HO}(hi:i<σ.length)(b1:B1 a=none)(h1:Hs a=none)(h2:H a=some ho)(q:cX Γ Hs a o ho)
  (new:∀(j:Nat)(u:O),j≠i->ρ[j]?=some (some (.own u))->σ[j]?≠some (some (.ref a))):RE Γ B0 B1 Hs H (σ.set i (some (.ref a))) (ρ.set i (some (.own o))) where
 tb:=r.tb
 b:=r.b
 sh:=λj e hj=>by
  by_cases h:i=j
  ·subst h;rw[getElem?_set_self (by rw[r.len];exact hi)] at hj
   cases hj
  ·rw[getElem?_set_ne h] at hj ⊢;exact r.sh j e hj
 own:=λj u hj=>by
  by_cases h:i=j
  ·subst h;rw[getElem?_set_self (by rw[r.len];exact hi)] at hj
   cases hj;exact⟨a,ho,getElem?_set_self hi,b1,h1,h2,q⟩
  ·rw[getElem?_set_ne h] at hj ⊢;exact r.own j u hj
 apart:=λj k u u' c hjk hj hk ha=>by
  by_cases hij:i=j
  ·subst hij;rw[getElem?_set_self hi] at ha;cases ha;rw[getElem?_set_ne hjk] at hk ⊢;exact new k u' (Ne.symm hjk) hk
  ·rw[getElem?_set_ne hij] at hj ha;by_cases hik:i=k
   ·subst hik;rw[getElem?_set_self hi];intro z;cases z;exact new j u (Ne.symm hij) hj ha
   ·rw[getElem?_set_ne hik] at hk ⊢;exact r.apart j k u u' c hjk hj hk ha
 len:=by rw[length_set,length_set,r.len]
theorem RE.setS(r:RE Γ B0 B1 Hs H σ ρ)(g:aW Hs H Hs' H'){i:Nat}{s:S}{v:V}(hi:i<σ.length)(q:bH Γ H Hs' H' s v):RE Γ B0 B1 Hs' H' (σ.set i (some v)) (ρ.set i (some s)):=by
 cases s with
 |sh d=>exact(r.grow g).setSh hi q
 |own o=>
  obtain⟨a,ho,rfl,h0,h1,h2,q⟩:=q;refine(r.grow g).setOwn hi (r.b.h.free h0) h1 h2 q.w λj u _ hj z=>?_;obtain⟨c,hc,e1,_,_,e4,_⟩:=r.own j u hj;rw[z] at e1;cases e1;rw[h0] at e4;cases e4
 |two d a o=>
  have r1:=(r.grow g).setSh hi q.1;have key:∀(j:Nat)(s:S),(∀d a o,s≠.two d a o)->(ρ.set i (some (.two d a o)))[j]?=some (some s)->(ρ.set i (some (.sh d)))[j]?=some (some s):=λj s hn hj=>by
   by_cases h:i=j
   ·subst h;rw[getElem?_set_self (by rw[r.len];exact hi)] at hj
    cases hj;exact(hn _ _ _ rfl).elim
   ·rw[getElem?_set_ne h] at hj ⊢;exact hj
  exact⟨r1.b,λj e hj=>r1.sh j e (key j _ (λ_ _ _ z=>nomatch z) hj),λj u hj=>r1.own j u (key j _ (λ_ _ _ z=>nomatch z) hj),λj k u u' c hjk hj hk ha=>r1.apart j k u u' c hjk (key j _ (λ_ _ _ z=>nomatch z) hj) (key k _ (λ_ _ _ z=>nomatch z) hk) ha,by rw[length_set,length_set,r.len],r1.tb⟩
theorem RE.write(r:RE Γ B0 B1 Hs H σ ρ){i:Nat}{o o':O}{a:Addr}{ho':HO}(e:ρ[i]?=some (some (.own o)))(ea:σ[i]?=some (some (.ref a)))(q:cX Γ Hs a o' ho'):RE Γ B0 B1 Hs (aS H a ho') σ (ρ.set i (some (.own o'))):=by
 obtain⟨c,ho,e1,e2,e3,e4,_⟩:=r.own i o e;rw[ea] at e1;cases e1;have hi:i<ρ.length:=(List.getElem?_eq_some_iff.mp e).1;refine⟨⟨r.b.s,λb u z=>?_,λb u z=>?_,r.b.n⟩,λj d hj=>?_,λj u hj=>?_,λj k u u' c hjk hj hk ha=>?_,by rw[length_set,r.len],r.tb⟩
 ·rw[ak (aC z e2)];exact r.b.h _ _ z
 ·rw[ak (aC z e3)];exact r.b.i _ _ z
 ·by_cases h:i=j
  ·subst h;rw[getElem?_set_self hi] at hj;cases hj
  ·rw[getElem?_set_ne h] at hj;exact r.sh j d hj
 ·by_cases h:i=j
  ·subst h;rw[getElem?_set_self hi] at hj;cases hj;exact⟨a,ho',ea,e2,e3,aq,q⟩
  ·rw[getElem?_set_ne h] at hj;obtain⟨c,hc,f1,f2,f3,f4,f5⟩:=r.own j u hj;refine⟨c,hc,f1,f2,f3,?_,f5⟩;rw[ak]
   ·exact f4
   ·intro z;subst z;exact r.apart i j o u c h e hj ea f1
 ·have old:∀(m:Nat)(u:O),(ρ.set i (some (.own o')))[m]?=some (some (.own u))->∃u',ρ[m]?=some (some (.own u')):=λm u hm=>by
   by_cases h:i=m
   ·subst h;exact⟨o,e⟩
   ·rw[getElem?_set_ne h] at hm;exact⟨u,hm⟩
  obtain⟨x,hx⟩:=old j u hj;obtain⟨y,hy⟩:=old k u' hk;exact r.apart j k x y c hjk hx hy ha
theorem RE.dem(r:RE Γ B0 B1 Hs H σ ρ)(i:Nat):∃Hs',aB Hs Hs'/\RE Γ B0 B1 Hs' H σ (dem i ρ):=by
 unfold L3.dem;split
 ·exact⟨Hs,.refl _,r⟩
 ·exact⟨Hs,.refl _,r⟩
 ·exact⟨Hs,.refl _,r⟩
 ·exact⟨Hs,.refl _,r⟩
 ·rename_i o hno hno2 hno3 hno4 e;obtain⟨a,ho,e1,e2,e3,e4,q⟩:=r.own i o e;have q:=q.o (λkvs z=>by subst z;exact hno kvs rfl) (λb u z=>by subst z;exact hno2 b u rfl) (λkvs z=>by subst z;exact hno3 kvs rfl) λkvs z=>by subst z;exact hno4 kvs rfl
  have hi:i<ρ.length:=(List.getElem?_eq_some_iff.mp e).1;have sm:aB Hs (aS Hs a ho):=bB e3;have sh':aB (aS Hs a ho) H:=λb u z=>by
   by_cases hb:b=a
   ·subst hb;rw[aq] at z;cases z;exact e4
   ·rw[ak hb] at z;exact r.b.i _ _ z
  refine⟨aS Hs a ho,sm,⟨⟨r.b.s.trans sm,r.b.h,sh',λb u z=>?_⟩,λj d hj=>?_,λj u hj=>?_,λj k u u' c hjk hj hk ha=>?_,by rw[length_set,r.len],r.tb.trans sm⟩⟩
  ·by_cases hb:b=a
   ·subst hb;exact .inr e2
   ·rw[ak hb] at z;exact r.b.n _ _ z
  ·by_cases h:i=j
   ·subst h;rw[getElem?_set_self hi] at hj;cases hj;exact⟨.ref a,e1,(q.mono sm).val aq⟩
   ·rw[getElem?_set_ne h] at hj;obtain⟨v,f1,f2⟩:=r.sh j d hj;exact⟨v,f1,f2.mono sm⟩
  ·by_cases h:i=j
   ·subst h;rw[getElem?_set_self hi] at hj;cases hj
   ·rw[getElem?_set_ne h] at hj;obtain⟨c,hc,f1,f2,f3,f4,f5⟩:=r.own j u hj;refine⟨c,hc,f1,f2,?_,f4,f5.mono sm⟩;rw[ak]
    ·exact f3
    ·intro z;subst z;exact r.apart i j o u c h e hj e1 f1
  ·have n1:i≠j:=λz=>by subst z;rw[getElem?_set_self hi] at hj;cases hj
   have n2:i≠k:=λz=>by subst z;rw[getElem?_set_self hi] at hk;cases hk
   rw[getElem?_set_ne n1] at hj;rw[getElem?_set_ne n2] at hk;exact r.apart j k u u' c hjk hj hk ha
 ·exact⟨Hs,.refl _,r⟩
end
abbrev XW:=D->Hp->Hp->Prop
def RQ(Γ:Ct)(W:XW)(Hs H:Hp)(r:R)(Q:VK):Prop:=match r with
 |.ok s=>∀v Hs' H',aW Hs H Hs' H'->bH Γ H Hs' H' s v->Q v H'
 |.exc x=>∀Hs' H',aW Hs H Hs' H'->W x Hs' H'
def RL(Γ:Ct)(W:XW)(Hs H:Hp)(r:R)(Q:VK):Prop:=match r with
 |.ok s=>∀v Hs' H',aW Hs H Hs' H'->Rep Γ H' s.val v->Q v H'
 |.exc x=>∀Hs' H',aW Hs H Hs' H'->W x Hs' H'
def RB(W:XW)(Hs H:Hp)(r:R)(Q:Bool->Hp->Prop):Prop:=match r with
 |.ok s=>∃b,s.val=.bl b/\∀Hs' H',aW Hs H Hs' H'->Q b H'
 |.exc x=>∀Hs' H',aW Hs H Hs' H'->W x Hs' H'
section
variable{Γ:Ct}{W:XW}{Hs H Hs1 H1:Hp}{r:R}{Q Q':VK}
theorem RQ.grow(q:RQ Γ W Hs H r Q)(g:aW Hs H Hs1 H1):RQ Γ W Hs1 H1 r Q:=by
 cases r with
 |ok s=>exact λv Hs' H' g' rs=>q v Hs' H' (g.trans g') (rs.back g.h)
 |exc x=>exact λHs' H' g'=>q Hs' H' (g.trans g')
theorem RQ.mono(q:RQ Γ W Hs H r Q)(h:∀v H,Q v H->Q' v H):RQ Γ W Hs H r Q':=by
 cases r with
 |ok s=>exact λv Hs' H' g' rs=>h _ _ (q v Hs' H' g' rs)
 |exc x=>exact q
theorem RL.mono(q:RL Γ W Hs H r Q)(h:∀v H,Q v H->Q' v H):RL Γ W Hs H r Q':=by
 cases r with
 |ok s=>exact λv Hs' H' g' rs=>h _ _ (q v Hs' H' g' rs)
 |exc x=>exact q
theorem RL.grow(q:RL Γ W Hs H r Q)(g:aW Hs H Hs1 H1):RL Γ W Hs1 H1 r Q:=by
 cases r with
 |ok s=>exact λv Hs' H' g' rs=>q v Hs' H' (g.trans g') rs
 |exc x=>exact λHs' H' g'=>q Hs' H' (g.trans g')
end
inductive tD(Γ:Ct)(W:XW)(g:ME)(σ:L2.St)(H:Hp)(Q:VK):Prop
 |mk (B0 B1 Hs:Hp) (ρ:av) (r:R) (re:RE Γ B0 B1 Hs H σ ρ) (e:g ρ=some r) (q:RQ Γ W Hs H r Q)
inductive tL(Γ:Ct)(W:XW)(g:ME)(σ:L2.St)(H:Hp)(Q:VK):Prop
 |mk (B0 B1 Hs:Hp) (ρ:av) (r:R) (re:RE Γ B0 B1 Hs H σ ρ) (e:g ρ=some r) (q:RL Γ W Hs H r Q)
inductive tT(Γ:Ct)(W:XW)(g:ME)(σ:L2.St)(H:Hp)(Q:Bool->Hp->Prop):Prop
 |mk (B0 B1 Hs:Hp) (ρ:av) (r:R) (re:RE Γ B0 B1 Hs H σ ρ) (e:g ρ=some r) (q:RB W Hs H r Q)
def lY(Γ:Ct)(W:XW):List ME->TA
 |[]=>FM
 |g::gs=>sV (tD Γ W g) (lY Γ W gs)
def qw(Γ:Ct)(W:XW):List ME->TA
 |[]=>FM
 |g::gs=>sV (tL Γ W g) (qw Γ W gs)
section
variable{Γ:Ct}{W:XW}{B0 B1 Hs H:Hp}{σ:L2.St}{ρ:av}{r:R}{Q Q':VK}{g ga:ME}{k:D->Option R}
theorem tD.mono(t:tD Γ W g σ H Q)(h:∀v H,Q v H->Q' v H):tD Γ W g σ H Q':=by
 obtain⟨B0,B1,Hs,ρ,r,re,e,q⟩:=t;exact⟨B0,B1,Hs,ρ,r,re,e,q.mono h⟩
theorem tL.mono(t:tL Γ W g σ H Q)(h:∀v H,Q v H->Q' v H):tL Γ W g σ H Q':=by
 obtain⟨B0,B1,Hs,ρ,r,re,e,q⟩:=t;exact⟨B0,B1,Hs,ρ,r,re,e,q.mono h⟩
theorem tL.toD(t:tL Γ W g σ H Q):tD Γ W g σ H Q:=by
 obtain⟨B0,B1,Hs,ρ,r,re,e,q⟩:=t;refine⟨B0,B1,Hs,ρ,r,re,e,?_⟩;cases r with
 |ok s=>exact λv Hs' H' g' rs=>q v Hs' H' g' (rs.look g')
 |exc x=>exact q
theorem bK(re:RE Γ B0 B1 Hs H σ ρ)(e:b9 (ga ρ) k=some r)(q:RQ Γ W Hs H r Q):
  tD Γ W ga σ H (λv H1=>∃Hs1 d,aW Hs H Hs1 H1/\RE Γ B0 B1 Hs1 H1 σ ρ/\Rep Γ Hs1 d v/\k d=some r/\RQ Γ W Hs1 H1 r Q):=by
 cases h:ga ρ with
 |none=>rw[h] at e;cases e
 |some x=>
  rw[h] at e;refine⟨B0,B1,Hs,ρ,x,re,h,?_⟩;cases x with
  |exc y=>cases e;exact q
  |ok s=>
   intro v Hs' H' g' rs;obtain⟨Hs'',g2,_,rp⟩:=rs.share g';exact⟨Hs'',s.val,g2,re.grow g2,rp,e,q.grow g2⟩
theorem bz:∀(gs:List ME){σ:L2.St}{H:Hp}{Q Q':List V->Hp->Prop},(∀v H,Q v H->Q' v H)->lY Γ W gs σ H Q->lY Γ W gs σ H Q'
 |[],_,_,_,_,h,t=>h _ _ t
 |g::gs,_,_,_,_,h,t=>tD.mono t λv H1 t'=>bz gs (λvs H2 z=>h _ _ z) t'
theorem ke:∀(gs:List ME){σ:L2.St}{H:Hp}{Q Q':List V->Hp->Prop},(∀v H,Q v H->Q' v H)->qw Γ W gs σ H Q->qw Γ W gs σ H Q'
 |[],_,_,_,_,h,t=>h _ _ t
 |g::gs,_,_,_,_,h,t=>tL.mono t λv H1 t'=>ke gs (λvs H2 z=>h _ _ z) t'
theorem jA:∀(gs:List ME){Hs H:Hp}{k:List D->Option R},RE Γ B0 B1 Hs H σ ρ->bU gs ρ k=some r->RQ Γ W Hs H r Q->
  lY Γ W gs σ H (λvs H1=>∃Hs1 ds,aW Hs H Hs1 H1/\RE Γ B0 B1 Hs1 H1 σ ρ/\RepL Γ Hs1 ds vs/\k ds=some r/\RQ Γ W Hs1 H1 r Q)
 |[],Hs,H,k,re,e,q=>⟨Hs,[],.refl re.b.i,re,.nil,e,q⟩
 |g::gs,Hs,H,k,re,e,q=>by
  refine(bK re e q).mono λv H1 ⟨Hs1,d,g1,re1,rp,e1,q1⟩=>?_;refine bz gs (λvs H2 ⟨Hs2,ds,g2,re2,rps,e2,q2⟩=>?_) (jA gs re1 e1 q1);exact⟨Hs2,d::ds,g1.trans g2,re2,.cons (rp.mono g2.s) rps,e2,q2⟩
theorem oq:∀(gs:List ME){Hs H:Hp}{k:List D->Option R}{d:D},RE Γ B0 B1 Hs H σ ρ->iw (bU gs ρ k)=some (.ok (.sh d))->RQ Γ W Hs H (.ok (.sh d)) Q->
  qw Γ W gs σ H (λvs H1=>∃Hs1 ds,aW Hs H Hs1 H1/\RE Γ B0 B1 Hs1 H1 σ ρ/\RepL Γ H1 ds vs/\iw (k ds)=some (.ok (.sh d))/\RQ Γ W Hs1 H1 (.ok (.sh d)) Q)
 |[],Hs,H,k,d,re,e,q=>⟨Hs,[],.refl re.b.i,re,.nil,e,q⟩
 |g::gs,Hs,H,k,d,re,e,q=>by
  have e':iw (b9 (g ρ) λx=>bU gs ρ λds=>k (x::ds))=some (.ok (.sh d)):=e;cases h:g ρ with
  |none=>rw[h] at e';cases e'
  |some x=>
   rw[h] at e';cases x with
   |exc y=>cases e'
   |ok s=>
    refine⟨B0,B1,Hs,ρ,.ok s,re,h,λv Hs1 H1 g1 rp=>?_⟩;refine ke gs (λvs H2 ⟨Hs2,ds,g2,re2,rps,e2,q2⟩=>?_) (oq gs (k:=λds=>k (s.val::ds)) (re.grow g1) e' (q.grow g1));exact⟨Hs2,s.val::ds,g1.trans g2,re2,.cons (rp.mono g2.h) rps,e2,q2⟩
end
theorem PE.imp{X:Cx}{e:Expr}{t t':TE}(h:PE X e t)(i:∀pins s σ H Q,ay X pins σ H s->t' σ H Q->t σ H Q):PE X e t':=λpins s σ H Q I q=>h pins s σ H Q I (i pins s σ H Q I q)
theorem PT.imp{X:Cx}{e:Expr}{t t':TT}(h:PT X e t)(i:∀pins s σ H Q,ay X pins σ H s->t' σ H Q->t σ H Q):PT X e t':=λpins s σ H Q I q=>h pins s σ H Q I (i pins s σ H Q I q)
theorem PW.imp{X:Cx}{e:Expr}{t t':TT}(h:PW X e t)(i:∀σ H Q,t' σ H Q->t σ H Q):PW X e t':=λw pins s σ H Q I q=>h w pins s σ H Q I (i σ H Q q)
theorem PS.imp{X:Cx}{e:Stmt}{t t':TS}(h:PS X e t)(i:∀pins s σ H D,ay X pins σ H s->t' D σ H->t D σ H):PS X e t':=λpins s σ H D I q=>h pins s σ H D I (i pins s σ H D I q)
theorem ip.imp{X:Cx}{e:List Stmt}{t t':TS}(h:ip X e t)(i:∀D σ H,t' D σ H->t D σ H):ip X e t':=λpins s σ H D I q=>h pins s σ H D I (i D σ H q)
abbrev PD(X:Cx)(Γ:Ct)(W:XW)(e:Expr)(g:ME):Prop:=PE X e (tD Γ W g)
abbrev PL(X:Cx)(Γ:Ct)(W:XW)(e:Expr)(g:ME):Prop:=PE X e (tL Γ W g)
abbrev sA(X:Cx)(Γ:Ct)(W:XW)(e:Expr)(g:ME):Prop:=PT X e (tT Γ W g)
abbrev xj(X:Cx)(Γ:Ct)(W:XW)(e:Expr)(g:ME):Prop:=PW X e (tT Γ W g)
abbrev kh(X:Cx)(Γ:Ct)(W:XW)(es:List Expr)(gs:List ME):Prop:=PA X es (lY Γ W gs)
abbrev JI(X:Cx)(Γ:Ct)(W:XW)(es:List Expr)(gs:List ME):Prop:=PA X es (qw Γ W gs)
section
variable{X:Cx}{Γ:Ct}{W:XW}{e a b:Expr}{g ga gb:ME}{pos:Pos}
theorem PD.look(h:PD X Γ W e g):PL X Γ W e g:=PE.imp h λ_ _ _ _ _ _ t=>t.toD
theorem a8{i:Nat}(h:PE X e (jD i)):PD X Γ W e (eVar i):=PE.imp h λ_ _ σ H Q _ ⟨B0,B1,Hs,ρ,r,re,e1,q⟩=>by
 unfold eVar at e1;split at e1
 ·rename_i d hd;cases e1;obtain⟨v,e2,rp⟩:=re.sh i d hd;exact⟨v,e2,q v Hs H (.refl re.b.i) rp⟩
 ·cases e1
theorem jl{i:Nat}(h:PE X e (jD i)):PL X Γ W e (uP i):=PE.imp h λ_ _ σ H Q _ ⟨B0,B1,Hs,ρ,r,re,e1,q⟩=>by
 unfold uP at e1;split at e1
 ·cases e1
 ·cases e1
 ·cases e1
 ·cases e1
 ·cases e1
 ·rename_i s hno hno2 hno4 hno5 hno3 hd;cases e1;cases s with
  |two d a o=>exact(hno3 d a o rfl).elim
  |sh d=>
   obtain⟨v,e2,rp⟩:=re.sh i d hd;exact⟨v,e2,q v Hs H (.refl re.b.i) (Rep.mono re.b.i rp)⟩
  |own o=>
   obtain⟨c,ho,e2,_,_,e4,rp⟩:=re.own i o hd;exact⟨.ref c,e2,q (.ref c) Hs H (.refl re.b.i) (((rp.o (λkvs z=>by subst z;exact hno kvs rfl) (λb u z=>by subst z;exact hno2 b u rfl) (λkvs z=>by subst z;exact hno4 kvs rfl) λkvs z=>by subst z;exact hno5 kvs rfl).mono re.b.i).val e4)⟩
 ·cases e1
theorem mG{v:V}{d:D}(h:PE X e (tC v))(rp:∀H,Rep Γ H d v):PD X Γ W e (eC d):=PE.imp h λ_ _ σ H Q _ ⟨B0,B1,Hs,ρ,r,re,e1,q⟩=>by
 cases e1;exact q v Hs H (.refl re.b.i) (rp Hs)
theorem aa{i j}:PD X Γ W (.Constant (.int i) j pos) (eC (.int i)):=mG AK λ_=>ai.mpr rfl
theorem tK{i j}:PD X Γ W (.Constant (.bool i) j pos) (eC (.bl i)):=mG Iq λ_=>az.mpr rfl
theorem jV{j}:PD X Γ W (.Constant .none j pos) (eC .non):=mG qZ λ_=>bc.mpr rfl
theorem eV{i j}:PD X Γ W (.Constant (.str i) j pos) (eC (.str i)):=mG AI λ_=>aK.mpr rfl
theorem lg{i j pos'}:PD X Γ W (.UnaryOp .USub (.Constant (.int i) j pos') pos) (eC (.int (-i))):=PE.imp (Fi A9 AK) λ_ _ σ H Q _ ⟨B0,B1,Hs,ρ,r,re,e1,q⟩=>by
 cases e1;exact⟨i,rfl,q _ Hs H (.refl re.b.i) (bH.of (ai.mpr rfl))⟩
inductive rD(Γ:Ct)(W:XW)(f:D->D->Option R)(x y:V)(H:Hp)(Q:VK):Prop
 |mk (Hs:Hp) (d1 d2:D) (r:R) (sm:aB Hs H) (r1:Rep Γ Hs d1 x) (r2:Rep Γ Hs d2 y) (e:f d1 d2=some r) (q:RQ Γ W Hs H r Q)
theorem qI{f:D->D->Option R}{σ:L2.St}{H:Hp}{Q:VK}(t:tD Γ W (eBin f ga gb) σ H Q):HR (rD Γ W f) (tD Γ W ga) (tD Γ W gb) σ H Q:=by
 obtain⟨B0,B1,Hs,ρ,r,re,e,q⟩:=t;refine(bK re e q).mono λv H1 ⟨Hs1,d,g1,re1,rp,e1,q1⟩=>?_;refine(bK re1 e1 q1).mono λu H2 ⟨Hs2,d2,g2,re2,rp2,e2,q2⟩=>?_;exact⟨Hs2,d,d2,r,re2.b.i,rp.mono g2.s,rp2,e2,q2⟩
theorem aG{op:Operator}{f:D->D->Option R}(ho:ft X (binaryOp op) (rD Γ W f))(ha:PD X Γ W a ga)(hb:PD X Γ W b gb):PD X Γ W (.BinOp a op b pos) (eBin f ga gb):=
 PE.imp (Fj ho ha hb) λ_ _ _ _ _ _ t=>qI t
theorem lh{op:CmpOp}{f:D->D->Option R}(ho:ft X (compareOp op) (rD Γ W f))(ha:PD X Γ W a ga)(hb:PD X Γ W b gb)(hm:behindInMarks op b=false:=by first|exact B8 _|rfl):PD X Γ W (.Compare a [op] [b] pos) (eBin f ga gb):=
 PE.imp (DA ho ha hb hm) λ_ _ _ _ _ _ t=>qI t
theorem sT{σ:L2.St}{H:Hp}{Q:Bool->Hp->Prop}(t:tT Γ W g σ H Q):tD Γ W g σ H (λx H'=>∃k,x=.bl k/\Q k H'):=by
 obtain⟨B0,B1,Hs,ρ,r,re,e,q⟩:=t;refine⟨B0,B1,Hs,ρ,r,re,e,?_⟩;cases r with
 |exc x=>exact q
 |ok s=>
  obtain⟨c,ec,q⟩:=q;intro v Hs' H' g' rs;obtain⟨_,g2,_,rp⟩:=rs.share g';rw[ec] at rp;exact⟨c,az.mp rp,q _ _ g'⟩
theorem bw{op:CmpOp}{f:D->D->Option R}(ho:ft X (compareOp op) (rD Γ W f))(ha:PD X Γ W a ga)(hb:PD X Γ W b gb)(hm:behindInMarks op b=false:=by first|exact B8 _|rfl):sA X Γ W (.Compare a [op] [b] pos) (eBin f ga gb):=
 PT.imp (Dl ho ha hb hm) λ_ _ _ _ _ _ t=>qI (sT t)
theorem dz(h:PD X Γ W e g)(he:∀whole,isTrue e X.env whole=(do let v ←whole;standAt e.pos;holding [v] (truthy v)):=by intro _;rfl):sA X Γ W e g:=
 PT.imp (vS h he) λ_ _ _ _ _ _ t=>sT t
section
variable{t u:ME}{rest:List Expr}
theorem tT.mono{σ:L2.St}{H:Hp}{Q Q':Bool->Hp->Prop}(h:tT Γ W g σ H Q)(k:∀b H,Q b H->Q' b H):tT Γ W g σ H Q':=by
 obtain⟨B0,B1,Hs,ρ,r,re,e,q⟩:=h;refine⟨B0,B1,Hs,ρ,r,re,e,?_⟩;cases r with
 |exc x=>exact q
 |ok s=>obtain⟨c,ec,q⟩:=q;exact⟨c,ec,λHs' H' g'=>k _ _ (q Hs' H' g')⟩
theorem RB.grow{Hs H Hs1 H1:Hp}{r:R}{Q:Bool->Hp->Prop}(q:RB W Hs H r Q)(g:aW Hs H Hs1 H1):RB W Hs1 H1 r Q:=by
 cases r with
 |exc x=>exact λHs' H' g'=>q Hs' H' (g.trans g')
 |ok s=>obtain⟨c,ec,q⟩:=q;exact⟨c,ec,λHs' H' g'=>q Hs' H' (g.trans g')⟩
theorem gT{x:D}{k:Bool->Option R}{r:R}(h:asB x k=some r):∃c,x=.bl c/\k c=some r:=by
 cases x with
 |bl c=>exact⟨c,rfl,h⟩
 |_=>cases h
theorem qV(ha:sA X Γ W a g):sA X Γ W (.UnaryOp .Not a pos) (wV g):=PT.imp (Ay ha) λ_ _ σ H Q _ t=>by
 obtain⟨B0,B1,Hs,ρ,r,re,e,q⟩:=t;have e':b9 (g ρ) Ji=some r:=e;cases h:g ρ with
 |none=>rw[h] at e';cases e'
 |some x=>
  rw[h] at e';refine⟨B0,B1,Hs,ρ,x,re,h,?_⟩;cases x with
  |exc y=>cases e';exact q
  |ok s=>
   obtain⟨c,ec,e2⟩:=gT (show asB s.val (λc=>okB (!c))=some r from e');cases e2;obtain⟨c',ec',q⟩:=q;cases ec';exact⟨c,ec,q⟩
theorem kq(ha:sA X Γ W a g):xj X Γ W (.BoolOp .And [a] pos) g:=Dk ha
theorem qU(ha:sA X Γ W a g):xj X Γ W (.BoolOp .Or [a] pos) g:=Aw ha
theorem mC(ha:sA X Γ W a t)(hb:xj X Γ W (.BoolOp .And (b::rest) pos) u):xj X Γ W (.BoolOp .And (a::b::rest) pos) (gQ t u):=PW.imp (FX ha hb) λσ H Q h=>by
 obtain⟨B0,B1,Hs,ρ,r,re,e,q⟩:=h;have e':b9 (t ρ) (λx=>asB x λc=>if c=true then u ρ else okB false)=some r:=e;cases h:t ρ with
 |none=>rw[h] at e';cases e'
 |some x=>
  rw[h] at e';refine⟨B0,B1,Hs,ρ,x,re,h,?_⟩;cases x with
  |exc y=>cases e';exact q
  |ok s=>
   obtain⟨c,ec,e2⟩:=gT (show asB s.val _=some r from e');refine⟨c,ec,λHs' H' g'=>?_⟩;cases c with
   |true=>exact⟨B0,B1,Hs',ρ,r,re.grow g',e2,q.grow g'⟩
   |false=>
    cases e2;obtain⟨c',ec',q⟩:=q;cases ec';exact q _ _ g'
theorem n0(ha:sA X Γ W a t)(hb:xj X Γ W (.BoolOp .Or (b::rest) pos) u):xj X Γ W (.BoolOp .Or (a::b::rest) pos) (CI t u):=PW.imp (Fh ha hb) λσ H Q h=>by
 obtain⟨B0,B1,Hs,ρ,r,re,e,q⟩:=h;have e':b9 (t ρ) (λx=>asB x λc=>if c=true then okB true else u ρ)=some r:=e;cases h:t ρ with
 |none=>rw[h] at e';cases e'
 |some x=>
  rw[h] at e';refine⟨B0,B1,Hs,ρ,x,re,h,?_⟩;cases x with
  |exc y=>cases e';exact q
  |ok s=>
   obtain⟨c,ec,e2⟩:=gT (show asB s.val _=some r from e');refine⟨c,ec,λHs' H' g'=>?_⟩;cases c with
   |false=>exact⟨B0,B1,Hs',ρ,r,re.grow g',e2,q.grow g'⟩
   |true=>
    cases e2;obtain⟨c',ec',q⟩:=q;cases ec';exact q _ _ g'
theorem xj.pt(h:xj X Γ W e g):sA X Γ W e g:=PW.pt h
theorem AM{op}(h:PD X Γ W a g):PD X Γ W (.BoolOp op [a] pos) g:=G6 h
theorem AU(ha:PD X Γ W a t)(hb:PD X Γ W (.BoolOp .And (b::rest) pos) u):PD X Γ W (.BoolOp .And (a::b::rest) pos) (gQ t u):=PE.imp (Gb ha hb) λ_ _ σ H Q _ h=>by
 obtain⟨B0,B1,Hs,ρ,r,re,e,q⟩:=h;refine(bK (k:=λx=>asB x λc=>if c=true then u ρ else okB false) re e q).mono λv H1 ⟨Hs1,d,g1,re1,rp,e1,q1⟩=>?_;obtain⟨c,rfl,e2⟩:=gT e1;refine⟨c,az.mp rp,?_⟩;cases c with
 |true=>exact⟨B0,B1,Hs1,ρ,r,re1,e2,q1⟩
 |false=>cases e2;exact q1 _ Hs1 H1 (.refl re1.b.i) (bH.of (az.mpr rfl))
theorem tH{c:Expr}(hc:sA X Γ W c g)(ha:PD X Γ W a ga)(hb:PD X Γ W b gb):PD X Γ W (.IfExp c a b pos) (GV g ga gb):=PE.imp (AL hc ha hb) λ_ _ σ H Q _ h=>by
 obtain⟨B0,B1,Hs,ρ,r,re,e,q⟩:=h;have e':b9 (g ρ) (λx=>asB x λc=>if c=true then ga ρ else gb ρ)=some r:=e;cases h:g ρ with
 |none=>rw[h] at e';cases e'
 |some x=>
  rw[h] at e';refine⟨B0,B1,Hs,ρ,x,re,h,?_⟩;cases x with
  |exc y=>cases e';exact q
  |ok s=>
   obtain⟨c,ec,e2⟩:=gT (show asB s.val _=some r from e');refine⟨c,ec,λHs' H' g'=>?_⟩;cases c with
   |true=>exact⟨B0,B1,Hs',ρ,r,re.grow g',e2,q.grow g'⟩
   |false=>exact⟨B0,B1,Hs',ρ,r,re.grow g',e2,q.grow g'⟩
end
theorem ae:kh X Γ W [] []:=eY
theorem cF{es:List Expr}{gs:List ME}(h:PD X Γ W e g)(t:kh X Γ W es gs)(hs:starEach (e::es) X.env=(false,eval e X.env)::starEach es X.env:=by rfl):kh X Γ W (e::es) (g::gs):=bF h t hs
theorem fm:JI X Γ W [] []:=eY
theorem dA{es:List Expr}{gs:List ME}(h:PL X Γ W e g)(t:JI X Γ W es gs)(hs:starEach (e::es) X.env=(false,eval e X.env)::starEach es X.env:=by rfl):JI X Γ W (e::es) (g::gs):=bF h t hs
inductive yF(Γ:Ct)(W:XW)(F:List D->Option R)(vs:List V)(H:Hp)(Q:VK):Prop
 |mk (Hs:Hp) (ds:List D) (r:R) (sm:aB Hs H) (rl:RepL Γ Hs ds vs) (e:F ds=some r) (q:RQ Γ W Hs H r Q) (tb:aB Γ.tb Hs)
theorem ji{F:List D->Option R}{gs:List ME}{σ:L2.St}{H:Hp}{Q:VK}(t:tD Γ W (au F gs) σ H Q):lY Γ W gs σ H λvs H1=>yF Γ W F vs H1 Q:=by
 obtain⟨B0,B1,Hs,ρ,r,re,e,q⟩:=t;exact bz gs (λvs H1 ⟨Hs1,ds,_,re1,rp,e1,q1⟩=>⟨Hs1,ds,r,re1.b.i,rp,e1,q1,re1.tb⟩) (jA gs re e q)
theorem Ag{F:List D->Option R}{gs:List ME}{σ:L2.St}{H:Hp}{Q:VK}(t:tD Γ W (da F gs) σ H Q):qw Γ W gs σ H λvs H1=>yF Γ W F vs H1 Q:=by
 obtain⟨B0,B1,Hs,ρ,r,re,e,q⟩:=t;have e':iw (bU gs ρ F)=some r:=e;obtain⟨d,rfl⟩:∃d,r=.ok (.sh d):=by
  unfold iw at e';split at e'
  ·split at e'
   ·cases e';exact⟨_,rfl⟩
   ·cases e'
  ·cases e'
 refine ke gs (λvs H1 ⟨Hs1,ds,g1,re1,rp,e1,q1⟩=>?_) (oq gs re e' q);unfold iw at e1;split at e1
 ·rename_i s hs;split at e1
  ·rename_i hf;cases e1;refine⟨H1,ds,_,.refl _,rp,hs,λv Hs' H' g' rs=>q1 v Hs1 H' (.only re1.b.i g'.h) ?_,re1.tb.trans re1.b.i⟩;exact rep_flat (rs.look g') hf
  ·cases e1
 ·cases e1
section
variable{CX:ym}{k:Nat}{f:Addr}{fd:FuncData}{ps:List Str}{x:Str}{p:Pos}{es:List Expr}{gs:List ME}{F:List D->Option R}
def A0(Γ:Ct)(W:XW)(F:List D->Option R):Sp:=λvs H Q _=>yF Γ W F vs H Q
theorem DF(G:bV X.prog X.w X.K X.mg X.base jg k f fd ps (A0 Γ W F))(hr:ba k X.A)(hg:Gl X x)(hm:X.mg x=some (.ref f))(hk:PySem.W.keepIn X.K (.ref f)=true)(hb:bO X.K fd ps [])
  (ha:kh X Γ W (e::es) gs) (hdb:(x == ("__debug__":Str))=false:=by decide) (he:starEach (e::es) X.env=(false,eval e X.env)::starEach es X.env:=by rfl) (hpl:(backTo pos (starEach es X.env)).any (·.1)=false:=by rfl):
  PD X Γ W (.Call (.Name x p) (e::es) [] pos) (au F gs):=
 PE.imp (r6 (E:=E0) (dvs:=[]) (ds:=[]) G hr hg hm hk hb .nil tN ha hdb he hpl) λ_ _ _ _ _ _ t=>bz gs (λvs H1 z=>by show yF Γ W F (vs++[]) H1 _;rw[append_nil];exact z) (ji t)
end
section
variable{x:Str}{p:Pos}{es:List Expr}{gs:List ME}{F:List D->Option R}{id T:String}
theorem Gf(hc:cZ X (.builtin id) (yF Γ W F))(hg:Gl X x)(hm:X.mg x=none)(hv:bootBuiltins x=some (.builtin id))(ha:kh X Γ W (e::es) gs)(hn:x ≠ "__name__" := by decide)(hdb:(x == ("__debug__":Str))=false:=by decide)
  (he:starEach (e::es) X.env=(false,eval e X.env)::starEach es X.env:=by rfl) (hpl:(backTo pos (starEach es X.env)).any (·.1)=false:=by rfl):PD X Γ W (.Call (.Name x p) (e::es) [] pos) (au F gs):=
 PE.imp (iM hc hg hm hv ha hn hdb he hpl) λ_ _ _ _ _ _ t=>ji t
theorem fk(hc:cZ X (.builtin id) (yF Γ W F))(hg:Gl X x)(hm:X.mg x=none)(hv:bootBuiltins x=some (.builtin id))(ha:JI X Γ W (e::es) gs)(hn:x ≠ "__name__" := by decide)(hdb:(x == ("__debug__":Str))=false:=by decide)
  (he:starEach (e::es) X.env=(false,eval e X.env)::starEach es X.env:=by rfl) (hpl:(backTo pos (starEach es X.env)).any (·.1)=false:=by rfl):PD X Γ W (.Call (.Name x p) (e::es) [] pos) (da F gs):=
 PE.imp (iM hc hg hm hv ha hn hdb he hpl) λ_ _ _ _ _ _ t=>Ag t
theorem tF(hc:cZ X (.type T) (yF Γ W F))(hg:Gl X x)(hm:X.mg x=none)(hv:bootBuiltins x=some (.type T))(ha:kh X Γ W (e::es) gs)(hn:x ≠ "__name__" := by decide)(hdb:(x == ("__debug__":Str))=false:=by decide)
  (he:starEach (e::es) X.env=(false,eval e X.env)::starEach es X.env:=by rfl) (hpl:(backTo pos (starEach es X.env)).any (·.1)=false:=by rfl):PD X Γ W (.Call (.Name x p) (e::es) [] pos) (au F gs):=
 PE.imp (yX hc hg hm hv ha hn hdb he hpl) λ_ _ _ _ _ _ t=>ji t
end
theorem aM{es:List Expr}{gs:List ME}{x1}(ha:kh X Γ W es gs):PD X Γ W (.Tuple es x1 pos) (eTup gs):=PE.imp (AH ha) λ_ _ σ H Q _ t=>by
 refine bz gs (λvs H1 ⟨Hs1,ds,r,sm,rp,e1,q1,_⟩=>?_) (ji t)
 try dsimp only at e1
 split at e1
 ·rename_i hl;cases e1;refine⟨by rw[←rp.length];exact le_trans hl (by decide),λp hp=>q1 _ (aS Hs1 p (.tup vs)) _ (.new sm hp) ?_⟩
  exact aF.mpr ⟨p,vs,rfl,.of aq,rp.mono (bB (sm.free hp))⟩
 ·cases e1
theorem d7{es:List Expr}{gs:List ME}(ha:kh X Γ W es gs):PD X Γ W (.List es pos) (eLst gs):=PE.imp (G7 ha) λ_ _ σ H Q _ t=>by
 refine bz gs (λvs H1 ⟨Hs1,ds,r,sm,rp,e1,q1,_⟩=>?_) (ji t)
 try dsimp only at e1
 split at e1
 ·rename_i hl;cases e1;refine⟨by rw[←rp.length];exact le_trans hl (by decide),λp hp=>q1 _ Hs1 _ (.newOwn sm hp) ?_⟩
  exact⟨p,_,rfl,hp,sm.free hp,aq,vs,rfl,rp⟩
 ·cases e1
theorem aA{f:D->D->Option R}(ho:CK X (rD Γ W f))(ha:PD X Γ W a ga)(hb:PD X Γ W b gb)(hs:yj b:=by exact λ_ _=>rfl):PD X Γ W (.Subscript a b pos) (eBin f ga gb):=
 PE.imp (Ip ho ha hb hs) λ_ _ _ _ _ _ t=>qI t
end
def EQ(Γ:Ct)(W:XW)(B0 B1 Hs:Hp)(D:mq):Out->Prop
 |.next ρ'=>∀σ' Hs' H',aB Hs Hs'->RE Γ B0 B1 Hs' H' σ' ρ'->D.nx σ' H'
 |.brk ρ'=>∀σ' Hs' H',aB Hs Hs'->RE Γ B0 B1 Hs' H' σ' ρ'->D.bk σ' H'
 |.cont ρ'=>∀σ' Hs' H',aB Hs Hs'->RE Γ B0 B1 Hs' H' σ' ρ'->D.ct σ' H'
 |.ret s=>∀v Hs' H',aB Hs Hs'->aW B0 B1 Hs' H'->bH Γ B1 Hs' H' s v->D.rt v H'
 |.exc x=>∀Hs' H',aB Hs Hs'->aW B0 B1 Hs' H'->W x Hs' H'
theorem EQ.from{Γ:Ct}{W:XW}{B0 B1 Hs Hs1:Hp}{D:mq}{o:Out}(q:EQ Γ W B0 B1 Hs D o)(k:aB Hs Hs1):EQ Γ W B0 B1 Hs1 D o:=by
 cases o with
 |next ρ=>exact λσ' Hs' H' h=>q σ' Hs' H' (k.trans h)
 |brk ρ=>exact λσ' Hs' H' h=>q σ' Hs' H' (k.trans h)
 |cont ρ=>exact λσ' Hs' H' h=>q σ' Hs' H' (k.trans h)
 |ret s=>exact λv Hs' H' h=>q v Hs' H' (k.trans h)
 |exc x=>exact λHs' H' h=>q Hs' H' (k.trans h)
inductive tS(Γ:Ct)(W:XW)(g:MC)(D:mq)(σ:L2.St)(H:Hp):Prop
 |mk (B0 B1 Hs:Hp) (ρ:av) (o:Out) (re:RE Γ B0 B1 Hs H σ ρ) (e:g ρ=some o) (q:EQ Γ W B0 B1 Hs D o)
abbrev vd(X:Cx)(Γ:Ct)(W:XW)(st:Stmt)(g:MC):Prop:=PS X st (tS Γ W g)
abbrev iC(X:Cx)(Γ:Ct)(W:XW)(st:List Stmt)(g:MC):Prop:=ip X st (tS Γ W g)
section
variable{X:Cx}{Γ:Ct}{W:XW}{st:Stmt}{rest a b:List Stmt}{g g1 g2:MC}{ge gc:ME}{e c:Expr}{pos:Pos}
theorem aQ:iC X Γ W [] cb:=ip.imp mE λD σ H ⟨B0,B1,Hs,ρ,o,re,e,q⟩=>by
 cases e;exact q σ Hs H (.refl _) re
theorem af(h1:vd X Γ W st g1)(h2:iC X Γ W rest g2):iC X Γ W (st::rest) (aH g1 g2):=ip.imp (iJ h1 h2) λD σ H ⟨B0,B1,Hs,ρ,o,re,e,q⟩=>by
 unfold aH at e;cases h:g1 ρ with
 |none=>rw[h] at e;cases e
 |some u=>
  rw[h] at e;refine⟨B0,B1,Hs,ρ,u,re,h,?_⟩;cases u with
  |next ρ'=>exact λσ' Hs' H' sm re'=>⟨B0,B1,Hs',ρ',o,re',e,q.from sm⟩
  |brk ρ'=>cases e;exact q
  |cont ρ'=>cases e;exact q
  |ret s=>cases e;exact q
  |exc x=>cases e;exact q
theorem aj(h:vd X Γ W st g):iC X Γ W [st] g:=kr h
theorem cT{i:Nat}(h:iC X Γ W rest g):iC X Γ W rest (mf i g):=ip.imp h λD σ H ⟨B0,B1,Hs,ρ,o,re,e,q⟩=>by
 obtain⟨Hs',sm,re'⟩:=re.dem i;exact⟨B0,B1,Hs',dem i ρ,o,re',e,q.from sm⟩
theorem D3{B0 B1 Hs H:Hp}{σ:L2.St}{ρ:av}{o:Out}{D:mq}{k:S->Option Out}(re:RE Γ B0 B1 Hs H σ ρ)(e:fZ (ge ρ) k=some o)(q:EQ Γ W B0 B1 Hs D o):
  tD Γ W ge σ H (λv H1=>∃Hs1 s,aW Hs H Hs1 H1/\bH Γ H Hs1 H1 s v/\k s=some o):=by
 cases h:ge ρ with
 |none=>rw[h] at e;cases e
 |some x=>
  rw[h] at e;refine⟨B0,B1,Hs,ρ,x,re,h,?_⟩;cases x with
  |exc y=>cases e;exact λHs' H' g'=>q Hs' H' g'.s (re.b.trans g')
  |ok s=>exact λv Hs' H' g' rs=>⟨Hs',s,g',rs,e⟩
theorem vU{i:Nat}{t:TE}(h:PS X st (HZ (tD Γ W ge) (BR i)))(hi:i<X.N.length):vd X Γ W st (aX i ge):=PS.imp h λpins s σ H D I ⟨B0,B1,Hs,ρ,o,re,e,q⟩=>by
 refine(D3 re e q).mono λv H1 ⟨Hs1,s,g1,rs,e1⟩=>?_;cases e1;exact q _ Hs1 H1 g1.s (re.setS g1 (by rw[I.len];exact hi) rs)
theorem Dm{i:Nat}{x:Str}{pos':Pos}(hN:X.N.Nodup)(hi:X.N[i]?=some x)(hx:CB X.env.scope x)(he:PD X Γ W e ge)(hs:swapsWith e (some (.Name x pos')) pos.line X.env=pure false:=by rfl)
  (hf:X.fn x=true\/X.env.scope.names.lookup x=some .local:=by first|exact .inl rfl|exact .inr rfl|assumption):vd X Γ W (.Assign [.Name x pos'] e pos) (aX i ge):=
 vU (t:=tD Γ W ge) (vX hN hi hx he hs hf) (List.getElem?_eq_some_iff.mp hi).1
theorem aE(he:PD X Γ W e ge):vd X Γ W (.Return (some e) pos) (bL ge):=PS.imp (kZ he) λpins s σ H D I ⟨B0,B1,Hs,ρ,o,re,e,q⟩=>by
 refine(D3 re e q).mono λv H1 ⟨Hs1,s,g1,rs,e1⟩=>?_;cases e1;exact q v Hs1 H1 g1.s (re.b.trans g1) (rs.back re.b.h)
theorem qv{x:D}{k:Bool->Option Out}{o:Out}(h:asBO x k=some o):∃c,x=.bl c/\k c=some o:=by
 cases x with
 |bl c=>exact⟨c,rfl,h⟩
 |_=>cases h
theorem bP(hc:sA X Γ W c gc)(ha:iC X Γ W a g1)(hb:iC X Γ W b g2):vd X Γ W (.If c a b pos) (jU gc g1 g2):=PS.imp (AB hc ha hb) λpins s σ H D I ⟨B0,B1,Hs,ρ,o,re,e,q⟩=>by
 have e':fZ (gc ρ) (λs=>asBO s.val λt=>if t=true then g1 ρ else g2 ρ)=some o:=e;cases h:gc ρ with
 |none=>rw[h] at e';cases e'
 |some x=>
  rw[h] at e';refine⟨B0,B1,Hs,ρ,x,re,h,?_⟩;cases x with
  |exc y=>cases e';exact λHs' H' g'=>q Hs' H' g'.s (re.b.trans g')
  |ok s=>
   obtain⟨t,et,e2⟩:=qv (show asBO s.val _=some o from e');refine⟨t,et,λHs' H' g'=>?_⟩;cases t with
   |true=>exact⟨B0,B1,Hs',ρ,o,re.grow g',e2,q.from g'.s⟩
   |false=>exact⟨B0,B1,Hs',ρ,o,re.grow g',e2,q.from g'.s⟩
structure Walk(Γ:Ct)(Hs0:Hp)(J:It)(ds:List D):Prop where
 go:∀i Hs H,i<ds.length->aB Hs0 Hs->aB Hs H->J.go i H
 stop:∀Hs H,aB Hs0 Hs->aB Hs H->J.stop ds.length H
 yld:∀i Hs H x H',i<ds.length->aB Hs0 Hs->aB Hs H->J.yld i H x H'->∃d Hs',ds[i]?=some d/\aW Hs H Hs' H'/\Rep Γ Hs' d x
def IQ(Γ:Ct)(W:XW)(Hs H:Hp)(r:RI)(Q:It->Hp->Prop):Prop:=match r with
 |.ok ds=>∀J Hs' H',aW Hs H Hs' H'->Walk Γ Hs' J ds->Q J H'
 |.exc x=>∀Hs' H',aW Hs H Hs' H'->W x Hs' H'
inductive tI(Γ:Ct)(W:XW)(gi:MI)(σ:L2.St)(H:Hp)(Q:It->Hp->Prop):Prop
 |mk (B0 B1 Hs:Hp) (ρ:av) (r:RI) (re:RE Γ B0 B1 Hs H σ ρ) (e:gi ρ=some r) (q:IQ Γ W Hs H r Q)
abbrev HJ(X:Cx)(Γ:Ct)(W:XW)(tg iter:Expr)(gi:MI):Prop:=PI X tg iter (tI Γ W gi)
theorem PI.imp{X:Cx}{tg e:Expr}{t t':TI}(h:PI X tg e t)(i:∀pins s σ H Q,ay X pins σ H s->t' σ H Q->t σ H Q):PI X tg e t':=λpins s σ H Q I q=>h pins s σ H Q I (i pins s σ H Q I q)
inductive JV(Γ:Ct)(js:List Nat)(bd:MB)(v:V)(σ:L2.St)(H:Hp)(Q:L2.St->Hp->Prop):Prop
 |mk (B0 B1 Hs:Hp) (ρ:av) (d:D) (ρ':av) (re:RE Γ B0 B1 Hs H σ ρ) (rp:Rep Γ Hs d v) (e:bd d ρ=some ρ') (q:∀σ':L2.St,RE Γ B0 B1 Hs H σ' ρ'->(∀j:Nat,j∉js->σ'[j]?=σ[j]?)->Q σ' H)
abbrev Jp(X:Cx)(Γ:Ct)(tg:Expr)(js:List Nat)(bd:MB):Prop:=PG X tg (JV Γ js bd)
theorem PG.imp{X:Cx}{tg:Expr}{t t':TG}(h:PG X tg t)(i:∀pins s v σ H Q,ay X pins σ H s->t' v σ H Q->t v σ H Q):PG X tg t':=λpins s σ H v u Q I r q=>h pins s σ H v u Q I r (i pins s v σ H Q I q)
theorem AW{j:Nat}{x:Str}(hN:X.N.Nodup)(hi:X.N[j]?=some x)(hx:CB X.env.scope x)(hf:X.fn x=true\/X.env.scope.names.lookup x=some .local:=by first|exact .inl rfl|exact .inr rfl|assumption):Jp X Γ (.Name x pos) [j] (cy j):=
 PG.imp (qX hN hi hx hf) λpins s v σ H Q I ⟨B0,B1,Hs,ρ,d,ρ',re,rp,e,q⟩=>by
  cases e;exact q _ (re.setSh (by rw[I.len];exact(List.getElem?_eq_some_iff.mp hi).1) rp) λi hi=>getElem?_set_ne λz=>hi (by simp[z])
theorem AV{j k:Nat}{x y:Str}{px py:Pos}{kt:Nat}(hK:X.K=Γ.K)(hc:X.calm=true)(hN:X.N.Nodup)(hj:X.N[j]?=some x)(hk:X.N[k]?=some y)(hx:CB X.env.scope x)(hy:CB X.env.scope y)
  (fx:X.fn x=true\/X.env.scope.names.lookup x=some .local:=by first|exact .inl rfl|exact .inr rfl|assumption) (fy:X.fn y=true\/X.env.scope.names.lookup y=some .local:=by first|exact .inl rfl|exact .inr rfl|assumption)
  (hn:(assignEach [.Name x px,.Name y py] X.env).length=2:=by rfl) (hst:(assignEach [.Name x px,.Name y py] X.env).findIdx? (·.1)=none:=by rfl)
  (hs1:(assignEach [.Name x px,.Name y py] X.env).map (·.2)=assign (.Name x px) X.env::(assignEach [.Name y py] X.env).map (·.2):=by rfl) (hs2:(assignEach [.Name y py] X.env).map (·.2)=assign (.Name y py) X.env::(assignEach [] X.env).map (·.2):=by rfl):
  Jp X Γ (.Tuple [.Name x px,.Name y py] kt pos) [j,k] (EV [j,k]):=
 PG.imp (G5 hc (tE (qX hN hj hx fx) (tE (qX hN hk hy fy) Dv hs2) hs1) hn hst) λpins s v σ H Q I ⟨B0,B1,Hs,ρ,d,ρ',re,rp,e,q⟩=>by
  have lj:j<σ.length:=by rw[I.len];exact(List.getElem?_eq_some_iff.mp hj).1
  have lk:k<σ.length:=by rw[I.len];exact(List.getElem?_eq_some_iff.mp hk).1
  cases d with
  |tup ds=>
   unfold EV at e;dsimp only at e;split at e
   ·rename_i hl;cases e
    match ds,hl with
    |[d1,d2],_=>
     obtain⟨a,xs,rfl,sq,rl⟩:=aF.mp rp;obtain⟨x1,r1,rfl,q1,rl⟩:=aJ.mp rl;obtain⟨x2,r2,rfl,q2,rl⟩:=aJ.mp rl;obtain rfl:=bQ.mp rl;refine⟨a,[x1,x2],rfl,by rw[hK];exact bA re.b.i sq,rfl,x1,[x2],rfl,x2,[],rfl,rfl,?_⟩
     exact q _ ((re.setSh lj q1).setSh (by rw[length_set];exact lk) q2) λi hi=>by
      rw[getElem?_set_ne λz=>hi (by simp[z]),getElem?_set_ne λz=>hi (by simp[z])]
   ·cases e
  |_=>cases e
theorem BS{js:List Nat}{bd:MB}{body:MC}{ds:List D}{J:It}{D:mq}{B0 B1 Hs0:Hp}{o:Out}(w:Walk Γ Hs0 J ds)(q:EQ Γ W B0 B1 Hs0 D o){σ:L2.St}{H:Hp}{ρ:av}(re:RE Γ B0 B1 Hs0 H σ ρ)(e:e9 bd body ds ρ=some o):
  ∃Wv:Nat->Nat->L2.St->Hp->Prop,(∃m,Wv 0 m σ H)/\∀i m σ H,Wv i m σ H->
   (J.stop i H/\D.nx σ H)\/(J.go i H/\∃N:L2.St->Hp->Prop,(∀σ' H',N σ' H'->∃m',m'<m/\Wv (i+1) m' σ' H')/\∀x H',J.yld i H x H'->JV Γ js bd x σ H' λσ2 H2=>tS Γ W body {D with nx:=N,ct:=N,bk:=D.nx} σ2 H2):=by
 refine⟨λi m σ H=>m=ds.length - i/\i<=ds.length/\∃Hs ρ,aB Hs0 Hs/\RE Γ B0 B1 Hs H σ ρ/\e9 bd body (ds.drop i) ρ=some o,⟨_,rfl,zero_le _,Hs0,ρ,.refl _,re,e⟩,?_⟩
 rintro i m σ H ⟨rfl,hi,Hs,ρ,sm,re,e⟩
 by_cases hlt:i<ds.length
 ·refine .inr ⟨w.go i Hs H hlt sm re.b.i,λσ' H'=>∃Hs' ρ',aB Hs0 Hs'/\RE Γ B0 B1 Hs' H' σ' ρ'/\e9 bd body (ds.drop (i+1)) ρ'=some o,λσ' H' ⟨Hs',ρ',s',r',e'⟩=>⟨_,by omega,rfl,hlt,Hs',ρ',s',r',e'⟩,λx H' y=>?_⟩
  obtain⟨d,Hs',ed,g',rp⟩:=w.yld i Hs H x H' hlt sm re.b.i y;have hd:ds.drop i=d::ds.drop (i+1):=by
   rw[List.drop_eq_getElem_cons hlt];congr 1;rw[getElem?_eq_getElem hlt] at ed;exact Option.some.inj ed
  rw[hd] at e;unfold e9 at e;cases h:bd d ρ with
  |none=>rw[h] at e;cases e
  |some ρ1=>
   rw[h] at e;dsimp only at e;refine⟨B0,B1,Hs',ρ,d,ρ1,re.grow g',rp,h,λσ2 re2 _=>?_⟩;cases hb:body ρ1 with
   |none=>rw[hb] at e;cases e
   |some u=>
    rw[hb] at e;refine⟨B0,B1,Hs',ρ1,u,re2,hb,?_⟩;have s1:aB Hs0 Hs':=sm.trans g'.s;cases u with
    |next ρ2=>exact λσ' Hs2 H2 s2 re3=>⟨Hs2,ρ2,s1.trans s2,re3,e⟩
    |cont ρ2=>exact λσ' Hs2 H2 s2 re3=>⟨Hs2,ρ2,s1.trans s2,re3,e⟩
    |brk ρ2=>cases e;exact λσ' Hs2 H2 s2 re3=>q σ' Hs2 H2 (s1.trans s2) re3
    |ret s=>cases e;exact λv Hs2 H2 s2=>q v Hs2 H2 (s1.trans s2)
    |exc x=>cases e;exact λHs2 H2 s2=>q Hs2 H2 (s1.trans s2)
 ·have ei:i=ds.length:=by omega
  subst ei;rw[List.drop_length] at e;cases e;exact .inl ⟨w.stop Hs H sm re.b.i,q σ Hs H sm re⟩
theorem fj{tg iter:Expr}{gi:MI}{js:List Nat}{bd:MB}{body:List Stmt}(hp:PassesOwn (model X.prog X.w) X.A X.env X.xe)(hc:X.calm=true)(hi:HJ X Γ W tg iter gi)(hg:Jp X Γ tg js bd)(hb:iC X Γ W body g)
  (hs:∀x,foldedSetIterable iter X.env x=pure x:=by intro _;rfl):vd X Γ W (.For tg iter body [] pos) (kX gi bd g):=PS.imp (FZ hp hc hi hg hb hs) λpins s σ H D I ⟨B0,B1,Hs,ρ,o,re,e,q⟩=>by
 unfold kX at e;cases h:gi ρ with
 |none=>rw[h] at e;cases e
 |some r=>
  rw[h] at e;refine⟨B0,B1,Hs,ρ,r,re,h,?_⟩;cases r with
  |exc x=>cases e;exact λHs' H' g'=>q Hs' H' g'.s (re.b.trans g')
  |ok ds=>exact λJ Hs' H' g' w=>BS w (q.from g'.s) (re.grow g') e
theorem vn{body:MC}{D:mq}{B0 B1 Hs0:Hp}{o:Out}(q:EQ Γ W B0 B1 Hs0 D o)(n:Nat){σ:L2.St}{H:Hp}{ρ:av}(re:RE Γ B0 B1 Hs0 H σ ρ)(e:bD gc body n ρ=some o):Af (tT Γ W gc) (tS Γ W body) D σ H:=by
 refine⟨λm σ H=>∃Hs ρ,aB Hs0 Hs/\RE Γ B0 B1 Hs H σ ρ/\bD gc body m ρ=some o,⟨n,Hs0,ρ,.refl _,re,e⟩,?_⟩
 rintro m σ H ⟨Hs,ρ,sm,re,e⟩
 cases m with
 |zero=>cases e
 |succ m=>
  have e':fZ (gc ρ) (λs=>asBO s.val λt=>if t=true then(match body ρ with
   |some (.next ρ2)=>bD gc body m ρ2
   |some (.cont ρ2)=>bD gc body m ρ2
   |some (.brk ρ2)=>some (.next ρ2)
   |o=>o) else some (.next ρ))=some o:=e
  cases h:gc ρ with
  |none=>rw[h] at e';cases e'
  |some x=>
   rw[h] at e';refine⟨B0,B1,Hs,ρ,x,re,h,?_⟩;cases x with
   |exc y=>cases e';exact λHs' H' g'=>q Hs' H' (sm.trans g'.s) (re.b.trans g')
   |ok s=>
    obtain⟨t,et,e2⟩:=qv (show asBO s.val _=some o from e');refine⟨t,et,λHs' H' g'=>?_⟩;have s1:aB Hs0 Hs':=sm.trans g'.s;cases t with
    |false=>
     cases e2;exact q σ Hs' H' s1 (re.grow g')
    |true=>
     refine⟨λσ' H'=>∃Hs' ρ',aB Hs0 Hs'/\RE Γ B0 B1 Hs' H' σ' ρ'/\bD gc body m ρ'=some o,λσ' H' z=>⟨m,Nat.lt_succ_self _,z⟩,?_⟩;have e3:=e2;rw[if_pos rfl] at e3;cases hb:body ρ with
     |none=>rw[hb] at e3;cases e3
     |some u=>
      rw[hb] at e3;refine⟨B0,B1,Hs',ρ,u,re.grow g',hb,?_⟩;cases u with
      |next ρ2=>exact λσ' Hs2 H2 s2 re3=>⟨Hs2,ρ2,s1.trans s2,re3,e3⟩
      |cont ρ2=>exact λσ' Hs2 H2 s2 re3=>⟨Hs2,ρ2,s1.trans s2,re3,e3⟩
      |brk ρ2=>cases e3;exact λσ' Hs2 H2 s2 re3=>q σ' Hs2 H2 (s1.trans s2) re3
      |ret s=>cases e3;exact λv Hs2 H2 s2=>q v Hs2 H2 (s1.trans s2)
      |exc x=>cases e3;exact λHs2 H2 s2=>q Hs2 H2 (s1.trans s2)
theorem pK{body:List Stmt}(fuel:av->Nat)(hp:PassesOwn (model X.prog X.w) X.A X.env X.xe)(hc:sA X Γ W c gc)(hb:iC X Γ W body g):vd X Γ W (.While c body [] pos) (qO fuel gc g):=
 PS.imp (Az hp hc hb) λpins s σ H D I ⟨B0,B1,Hs,ρ,o,re,e,q⟩=>vn q (fuel ρ) re e
theorem yq{Hs0:Hp}{a:Addr}{xs:List V}{ds:List D}{K:Frag}(h:jE K Hs0 a xs)(r:RepL Γ Hs0 ds xs):Walk Γ Hs0 (Kv K a) ds where
 go:=λi Hs H hi s1 s2=>⟨xs,xs[i]'(by rw[←r.length];exact hi),aB.seq (s1.trans s2) h,by rw[getElem?_eq_getElem]⟩
 stop:=λHs H s1 s2=>⟨xs,aB.seq (s1.trans s2) h,le_of_eq r.length.symm⟩
 yld:=λi Hs H x H' hi s1 s2 ⟨e,y⟩=>by
  subst e;obtain⟨z,e1,q⟩:=r.get (getElem?_eq_getElem hi);have e2:=y xs (aB.seq (s1.trans s2) h);rw[e1] at e2;cases e2;exact⟨_,Hs,getElem?_eq_getElem hi,.refl s2,q.mono s1⟩
theorem A7{Hs0:Hp}{a:Addr}{xs:List V}{ds:List D}{K:Frag}(h:jP K Hs0 a xs)(r:RepL Γ Hs0 ds xs):Walk Γ Hs0 (Ku K a) ds where
 go:=λi Hs H hi s1 s2=>⟨xs,xs[i]'(by rw[←r.length];exact hi),bA (s1.trans s2) h,by rw[getElem?_eq_getElem]⟩
 stop:=λHs H s1 s2=>⟨xs,bA (s1.trans s2) h,le_of_eq r.length.symm⟩
 yld:=λi Hs H x H' hi s1 s2 ⟨e,y⟩=>by
  subst e;obtain⟨z,e1,q⟩:=r.get (getElem?_eq_getElem hi);have e2:=y xs (bA (s1.trans s2) h);rw[e1] at e2;cases e2;exact⟨_,Hs,getElem?_eq_getElem hi,.refl s2,q.mono s1⟩
theorem sE{Hs0:Hp}(lo hi:Int):Walk Γ Hs0 (Js lo (hi - lo).toNat) (rng lo hi) where
 go:=λi Hs H h s1 s2=>by
  unfold rng at h;rw[length_map,length_range] at h;exact h
 stop:=λHs H s1 s2=>by
  unfold rng;rw[length_map,length_range];exact le_refl _
 yld:=λi Hs H x H' h s1 s2 ⟨e,y⟩=>by
  subst e y;unfold rng at h ⊢;rw[length_map,length_range] at h;exact⟨.int (lo+i),Hs,by rw[getElem?_map,getElem?_range h];rfl,.refl s2,ai.mpr rfl⟩
end
theorem pe(js:List Nat):∀ρ:av,(d8 js ρ).length=ρ.length:=by
 induction js with
 |nil=>intro ρ;rfl
 |cons j js ih=>intro ρ;show(d8 js (ρ.set j none)).length=_;rw[ih,length_set]
theorem jZ(js:List Nat):∀(ρ:av)(i:Nat)(v:S),(d8 js ρ)[i]?=some (some v)->i∉js/\ρ[i]?=some (some v):=by
 induction js with
 |nil=>intro ρ i v h;exact⟨by simp,h⟩
 |cons j js ih=>
  intro ρ i v h;obtain⟨h1,h2⟩:=ih (ρ.set j none) i v h;by_cases hj:j=i
  ·subst hj;by_cases hl:j<ρ.length
   ·rw[getElem?_set_self hl] at h2;cases h2
   ·rw[getElem?_eq_none (by rw[length_set];omega)] at h2;cases h2
  ·rw[getElem?_set_ne hj] at h2;exact⟨by simp[h1,Ne.symm hj],h2⟩
theorem uH(js:List Nat):∀(σ:L2.St)(i:Nat),i∉js->(eD js σ)[i]?=σ[i]?:=by
 induction js with
 |nil=>intro σ i _;rfl
 |cons j js ih=>
  intro σ i h;have h':i≠j/\i∉js:=by simpa using h
  show(eD js (σ.set j none))[i]?=_;rw[ih _ _ h'.2,getElem?_set_ne (Ne.symm h'.1)]
section
variable{Γ:Ct}{B0 B1 Hs H:Hp}{σ σ':L2.St}{ρ ρ':av}
theorem RE.sub(r:RE Γ B0 B1 Hs H σ ρ)(hl:ρ'.length=σ'.length)(h:∀(i:Nat)(s:S),ρ'[i]?=some (some s)->ρ[i]?=some (some s)/\σ'[i]?=σ[i]?):RE Γ B0 B1 Hs H σ' ρ' where
 tb:=r.tb
 b:=r.b
 sh:=λi d e=>by
  obtain⟨e1,e2⟩:=h i _ e;obtain⟨v,e3,q⟩:=r.sh i d e1;exact⟨v,e2.trans e3,q⟩
 own:=λi o e=>by
  obtain⟨e1,e2⟩:=h i _ e;obtain⟨a,ho,e3,f1,f2,f3,q⟩:=r.own i o e1;exact⟨a,ho,e2.trans e3,f1,f2,f3,q⟩
 apart:=λi j o u a hij hi hj ha=>by
  obtain⟨e1,e2⟩:=h i _ hi;obtain⟨e3,e4⟩:=h j _ hj;rw[e4];exact r.apart i j o u a hij e1 e3 (e2.symm.trans ha)
 len:=hl
theorem RE.other(r:RE Γ B0 B1 Hs H σ ρ){a:Addr}{ho:HO}(h1:Hs a=none)(h2:B1 a=none)(h3:∀(i:Nat)(o:O),ρ[i]?=some (some (.own o))->σ[i]?≠some (some (.ref a))):RE Γ B0 B1 Hs (aS H a ho) σ ρ where
 tb:=r.tb
 b:=⟨r.b.s,λb u z=>by rw[ak (aC z h2)];exact r.b.h _ _ z,λb u z=>by rw[ak (aC z h1)];exact r.b.i _ _ z,r.b.n⟩
 sh:=r.sh
 own:=λi o e=>by
  obtain⟨c,hc,f1,f2,f3,f4,f5⟩:=r.own i o e;refine⟨c,hc,f1,f2,f3,?_,f5⟩;rw[ak]
  ·exact f4
  ·intro z;subst z;exact h3 i o e f1
 apart:=r.apart
 len:=r.len
end
theorem aW.other{Hs H Hs' H':Hp}{a:Addr}{ho:HO}(g:aW Hs H Hs' H')(h0:H a=none)(h1:Hs' a=none):aW Hs H Hs' (aS H' a ho):=
 ⟨g.s,λb u z=>by rw[ak (aC z h0)];exact g.h _ _ z,λb u z=>by rw[ak (aC z h1)];exact g.i _ _ z,g.n⟩
theorem aW.none{Hs H Hs' H':Hp}{a:Addr}{ho:HO}(g:aW Hs H Hs' H')(h:Hs a=Option.none)(h':H a=some ho):Hs' a=Option.none:=by
 cases z:Hs' a with
 |none=>rfl
 |some u=>
  rcases g.n a u z with w|w
  ·rw[h] at w;cases w
  ·rw[h'] at w;cases w
def HF(js:List Nat)(bd:MB):Prop:=∀d ρ ρ',bd d ρ=some ρ'->ρ'.length=ρ.length/\∀i:Nat,i∉js->ρ'[i]?=ρ[i]?
theorem zW(j:Nat):HF [j] (cy j):=λd ρ ρ' e=>by
 cases e;exact⟨by rw[length_set],λi hi=>getElem?_set_ne λz=>hi (by simp[z])⟩
section
variable{Γ:Ct}{W:XW}{js:List Nat}{gi:MI}{bd:MB}{cond elt:ME}
theorem D2{tt:TT}(ht:∀σ H Q,tT Γ W cond σ H Q->tt σ H Q)(hb:HF js bd){σ:L2.St}{H:Hp}{Q:VK}(t:tD Γ W (qi js gi bd cond elt) σ H Q):
  Fb js (tI Γ W gi) (JV Γ js bd) tt (tD Γ W elt) σ H Q:=by
 obtain⟨B0,B1,Hs,ρ,r,re,e,q⟩:=t;unfold qi at e;cases h:gi ρ with
 |none=>rw[h] at e;cases e
 |some x=>
  rw[h] at e;refine⟨B0,B1,Hs,ρ,x,re,h,?_⟩;cases x with
  |exc y=>cases e;exact q
  |ok ds=>
   intro J Hs1 H1 g1 w a ha;dsimp only at e;have hlim:ds.length<=lim:=by
    by_cases z:ds.length<=lim
    ·exact z
    ·rw[if_neg z] at e;cases e
   rw[if_pos hlim] at e;have hs1:Hs1 a=none:=g1.i.free ha;have h0:H a=none:=g1.h.free ha;have hb1:B1 a=none:=re.b.h.free h0;have re1:RE Γ B0 B1 Hs1 H1 (eD js σ) (d8 js ρ):=(re.grow g1).sub (by rw[pe,j0,re.len]) λi s z=>by
    obtain⟨z1,z2⟩:=jZ js ρ i s z;exact⟨z2,uH js σ i z1⟩
   have ap1:∀(i:Nat)(o:O),(d8 js ρ)[i]?=some (some (.own o))->(eD js σ)[i]?≠some (some (.ref a)):=λi o z z'=>by
    obtain⟨c,hc,f1,_,_,f4,_⟩:=re1.own i o z;rw[z'] at f1;cases f1;rw[ha] at f4;cases f4
   refine⟨λi m σ2 ys H2=>m=ds.length - i/\i<=ds.length/\∃Hs2 acc,aB Hs1 Hs2/\aW Hs H Hs2 H2/\RE Γ B0 B1 Hs2 H2 σ2 (d8 js ρ)/\Hs2 a=none/\
    (∀(i:Nat)(o:O),(d8 js ρ)[i]?=some (some (.own o))->σ2[i]?≠some (some (.ref a)))/\H2 a=some (.lst ys)/\RepL Γ Hs2 acc ys/\gR bd cond elt (d8 js ρ) (ds.drop i) acc=some r/\acc.length<=i,⟨_,rfl,zero_le _,Hs1,[],.refl _,g1.other h0 hs1,re1.other hs1 hb1 ap1,hs1,ap1,aq,.nil,e,zero_le _⟩,?_⟩
   rintro i m σ2 ys H2 ⟨rfl,hi,Hs2,acc,sm,g2,re2,ha2,ap,hy,rl,ec,hacc⟩
   refine⟨hy,?_⟩;by_cases hlt:i<ds.length
   ·refine .inr ⟨w.go i Hs2 H2 hlt sm re2.b.i,λx H3 y=>?_⟩;obtain⟨d,Hs3,ed,g3,rp⟩:=w.yld i Hs2 H2 x H3 hlt sm re2.b.i y;have hd:ds.drop i=d::ds.drop (i+1):=by
     rw[List.drop_eq_getElem_cons hlt];congr 1;rw[getElem?_eq_getElem hlt] at ed;exact Option.some.inj ed
    rw[hd] at ec;unfold gR at ec;cases hbd:bd d (d8 js ρ) with
    |none=>rw[hbd] at ec;cases ec
    |some ρ1=>
     rw[hbd] at ec;dsimp only at ec;obtain⟨bl,bo⟩:=hb d _ ρ1 hbd;refine⟨B0,B1,Hs3,d8 js ρ,d,ρ1,re2.grow g3,rp,hbd,λσ4 re4 hσ=>?_⟩;have low:∀{Hs5 H5:Hp},RE Γ B0 B1 Hs5 H5 σ4 ρ1->RE Γ B0 B1 Hs5 H5 σ4 (d8 js ρ):=λr5=>r5.sub (by rw[←bl,r5.len]) λk s z=>by
      obtain⟨z1,_⟩:=jZ js ρ k s z;exact⟨(bo k z1).trans z,rfl⟩
     have ap4:∀(k:Nat)(o:O),(d8 js ρ)[k]?=some (some (.own o))->σ4[k]?≠some (some (.ref a)):=λk o z=>by
      obtain⟨z1,_⟩:=jZ js ρ k _ z;rw[hσ k z1];exact ap k o z
     have ha3:=g3.none ha2 hy;have hy3:=g3.h _ _ hy;refine ht _ _ _ ?_;cases hcv:cond ρ1 with
     |none=>rw[hcv] at ec;cases ec
     |some c=>
      rw[hcv] at ec;refine⟨B0,B1,Hs3,ρ1,c,re4,hcv,?_⟩;cases c with
      |exc x=>
       cases ec;exact λHs' H' g'=>q Hs' H' ((g2.trans g3).trans g')
      |ok s=>
       obtain⟨b,eb,ec2⟩:=gT (show asB s.val _=some r from ec);refine⟨b,eb,λHs5 H5 g5=>?_⟩;have ha5:=g5.none ha3 hy3;have hy5:=g5.h _ _ hy3;have re5:=re4.grow g5;cases b with
       |false=>
        rw[if_neg Bool.false_ne_true] at ec2;refine Ki ?_;exact⟨_,by omega,rfl,hlt,Hs5,acc,(sm.trans g3.s).trans g5.s,(g2.trans g3).trans g5,low re5,ha5,ap4,hy5,rl.mono (g3.s.trans g5.s),ec2,by omega⟩
       |true=>
        rw[if_pos rfl] at ec2;refine Kh ?_;refine(bK (k:=λx=>gR bd cond elt (d8 js ρ) (ds.drop (i+1)) (acc++[x])) re5 ec2 ((q.grow (g2.trans g3)).grow g5)).mono λv H6 ⟨Hs6,z,g6,re6,rp6,ec6,q6⟩=>?_;have ha6:=g6.none ha5 hy5;have hy6:=g6.h _ _ hy5;have hlen:acc.length=ys.length:=rl.length;have hbig:ys.length<sizeLine:=lt_of_lt_of_le (by omega:ys.length<lim) (by decide)
        refine⟨hy6,hbig,_,by omega,rfl,hlt,Hs6,acc++[z],((sm.trans g3.s).trans g5.s).trans g6.s,(((g2.trans g3).trans g5).trans g6).other h0 ha6,(low re6).other ha6 hb1 ap4,ha6,ap4,aq,(rl.mono ((g3.s.trans g5.s).trans g6.s)).append (.cons rp6 .nil),ec6,by rw[length_append,length_singleton];omega⟩
   ·have ei:i=ds.length:=by omega
    subst ei;rw[List.drop_length] at ec;unfold gR at ec;split at ec
    ·cases ec;exact .inl ⟨w.stop Hs2 H2 sm re2.b.i,q _ Hs2 H2 g2 ⟨a,_,rfl,h0,ha2,hy,ys,rfl,rl⟩⟩
    ·cases ec
end
section
variable{X:Cx}{Γ:Ct}{W:XW}{scope:Scope}{vars:List Str}{js:List Nat}{elt tg iter c:Expr}{pos:Pos}{gi:MI}{bd:MB}{cond ge:ME}
theorem yZ(hb:HF js bd)(hc:d5 scope X.env.scope vars=true)(hj:my X.N vars js=true)(hcalm:X.calm=true)(hi:HJ X Γ W tg iter gi)
  (hg:∀fp s H a,Jp (fb X scope fp s H a) Γ tg js bd) (ht:∀fp s H a,sA (fb X scope fp s H a) Γ W c cond) (he:∀fp s H a,PD (fb X scope fp s H a) Γ W elt ge) (hs:∀x,foldedSetIterable iter X.env x=pure x:=by intro _;rfl):
  PD X Γ W (.ListComp elt [⟨tg,iter,[c],0⟩] scope pos) (qi js gi bd cond ge):=
 PE.imp (Dz hc hj hcalm hi hg (λfp s H a=>Dt (ht fp s H a)) he hs) λ_ _ _ _ _ _ t=>D2 (λ_ _ _ z=>z) hb t
variable{i:Nat}{x:Str}{pos' spos:Pos}
theorem jm{l:Expr}{g:ME}(hK:X.K=Γ.K)(h:PD X Γ W l g):HJ X Γ W tg l (lA g):=PI.imp (G4 h) λ_ _ σ H Q _ ⟨B0,B1,Hs,ρ,r,re,e,q⟩=>by
 unfold lA at e;cases hg:g ρ with
 |none=>rw[hg] at e;cases e
 |some y=>
  rw[hg] at e;cases y with
  |exc z=>
   cases e;exact⟨B0,B1,Hs,ρ,_,re,hg,q⟩
  |ok s=>
   refine⟨B0,B1,Hs,ρ,.ok s,re,hg,λv Hs' H' g' rs=>?_⟩;obtain⟨Hs2,g2,_,rp⟩:=rs.share g';dsimp only at e;cases hv:s.val with
   |lst ds=>
    rw[hv] at e rp;cases e;obtain⟨a,xs,rfl,rd,rl⟩:=aT.mp rp;rw[←hK] at rd;exact⟨a,rfl,.inl ⟨⟨xs,aB.seq g2.i rd⟩,q _ Hs2 H' g2 (yq rd rl)⟩⟩
   |tup ds=>
    rw[hv] at e rp;cases e;obtain⟨a,xs,rfl,sq,rl⟩:=aF.mp rp;rw[←hK] at sq;exact⟨a,rfl,.inr ⟨⟨xs,bA g2.i sq⟩,q _ Hs2 H' g2 (A7 sq rl)⟩⟩
   |non=>rw[hv] at e;cases e
   |bl _=>rw[hv] at e;cases e
   |int _=>rw[hv] at e;cases e
   |str _=>rw[hv] at e;cases e
   |fn _ _=>rw[hv] at e;cases e
   |obj _ _ _=>rw[hv] at e;cases e
theorem D4{B0 B1 Hs H:Hp}{σ:L2.St}{ρ:av}{g:ME}{k:D->Option RI}{r:RI}{Q:It->Hp->Prop}(re:RE Γ B0 B1 Hs H σ ρ)(e:rW g ρ k=some r)(q:IQ Γ W Hs H r Q):
  tD Γ W g σ H (λv H1=>∃Hs1 d,aW Hs H Hs1 H1/\RE Γ B0 B1 Hs1 H1 σ ρ/\Rep Γ Hs1 d v/\k d=some r/\IQ Γ W Hs1 H1 r Q):=by
 unfold rW at e;cases h:g ρ with
 |none=>rw[h] at e;cases e
 |some x=>
  rw[h] at e;refine⟨B0,B1,Hs,ρ,x,re,h,?_⟩;cases x with
  |exc y=>cases e;exact q
  |ok s=>
   intro v Hs' H' g' rs;obtain⟨Hs'',g2,_,rp⟩:=rs.share g';refine⟨Hs'',s.val,g2,re.grow g2,rp,e,?_⟩;cases r with
   |ok ds=>exact λJ Hs3 H3 g3 w=>q J Hs3 H3 (g2.trans g3) w
   |exc y=>exact λHs3 H3 g3=>q Hs3 H3 (g2.trans g3)
theorem nI{i:Int}(h:jI i=true):-(2 ^ 62)<=i/\i<2 ^ 62:=by
 unfold jI at h;simpa using h
theorem vZ{a:Expr}{g:ME}{p p':Pos}(hg:Gl X "range")(hm:X.mg "range" = none)(h:PD X Γ W a g)(hst:starEach (a::[]) X.env=(false,eval a X.env)::starEach [] X.env:=by rfl)(hs:starEach [a] X.env=[(false,eval a X.env)]:=by rfl):
  HJ X Γ W tg (.Call (.Name "range" p) [a] [] p') (kG g):=PI.imp (yW hg hm (bF h eY hst) hs) λ_ _ σ H Q _ ⟨B0,B1,Hs,ρ,r,re,e,q⟩=>by
 refine(D4 re e q).mono λv H1 ⟨Hs1,d,g1,re1,rp,e1,q1⟩=>?_;cases d with
 |int hi=>
  dsimp only at e1;split at e1
  ·rename_i hr;cases e1;obtain⟨h1,h2⟩:=nI hr;refine⟨hi,by rw[ai.mp rp],h1,h2,q1 _ Hs1 H1 (.refl re1.b.i) ?_⟩
   have w:=sE (Γ:=Γ) (Hs0:=Hs1) 0 hi;rw[Int.sub_zero] at w;exact w
  ·cases e1
 |_=>cases e1
theorem nh{a b:Expr}{ga gb:ME}{p p':Pos}(hg:Gl X "range")(hm:X.mg "range" = none)(ha:PD X Γ W a ga)(hb:PD X Γ W b gb)(hst:starEach [a,b] X.env=(false,eval a X.env)::starEach [b] X.env:=by rfl)(hst2:starEach [b] X.env=(false,eval b X.env)::starEach [] X.env:=by rfl)
  (hs:starEach [a,b] X.env=[(false,eval a X.env),(false,eval b X.env)]:=by rfl) (hs2:starEach [b] X.env=[(false,eval b X.env)]:=by rfl):
  HJ X Γ W tg (.Call (.Name "range" p) [a,b] [] p') (ia ga gb):=PI.imp (yV hg hm (bF ha (bF hb eY hst2) hst) hs hs2) λ_ _ σ H Q _ ⟨B0,B1,Hs,ρ,r,re,e,q⟩=>by
 refine(D4 re e q).mono λv H1 ⟨Hs1,d,g1,re1,rp,e1,q1⟩=>?_;refine(D4 re1 e1 q1).mono λu H2 ⟨Hs2,d2,g2,re2,rp2,e2,q2⟩=>?_;cases d with
 |int lo=>
  cases d2 with
  |int hi=>
   dsimp only at e2;split at e2
   ·rename_i hr;cases e2;obtain⟨h1,h2⟩:=nI hr.1;obtain⟨h3,h4⟩:=nI hr.2;exact⟨lo,hi,by rw[ai.mp rp,ai.mp rp2],⟨h1,h2,h3,h4⟩,q2 _ Hs2 H2 (.refl re2.b.i) (sE lo hi)⟩
   ·cases e2
  |non=>cases e2
  |bl _=>cases e2
  |str _=>cases e2
  |tup _=>cases e2
  |lst _=>cases e2
  |fn _ _=>cases e2
  |obj _ _ _=>cases e2
 |_=>cases e2
end
section
variable{X:Cx}{Γ:Ct}{W:XW}
theorem d6{Hs H:Hp}{Q:VK}{d:D}(sm:aB Hs H)(q:RQ Γ W Hs H (.ok (.sh d)) Q){v:V}(rp:Rep Γ Hs d v):Q v H:=q v Hs H (.refl sm) rp
theorem qS{Hs H:Hp}{Q:VK}{ds:List D}{xs:List V}(sm:aB Hs H)(q:RQ Γ W Hs H (.ok (.sh (.tup ds))) Q)(rl:RepL Γ Hs ds xs){p:Addr}(hp:H p=none):Q (.ref p) (aS H p (.tup xs)):=
 q _ (aS Hs p (.tup xs)) _ (.new sm hp) (bH.of (aF.mpr ⟨p,xs,rfl,.of aq,rl.mono (bB (sm.free hp))⟩))
theorem qT{Hs H:Hp}{Q:VK}{ds:List D}{xs:List V}(sm:aB Hs H)(q:RQ Γ W Hs H (.ok (.own (.lst ds))) Q)(rl:RepL Γ Hs ds xs){p:Addr}(hp:H p=none):Q (.ref p) (aS H p (.lst xs)):=
 q _ Hs _ (.newOwn sm hp) ⟨p,_,rfl,hp,sm.free hp,aq,xs,rfl,rl⟩
theorem iW{n:Nat}(h:n<=lim):n<=sizeLine:=le_trans h (by decide)
theorem bj{α:Type}{c:Prop}[Decidable c]{a r:α}(h:(if c then some a else none)=some r):c/\a=r:=by
 by_cases z:c
 ·rw[if_pos z] at h;exact⟨z,Option.some.inj h⟩
 ·rw[if_neg z] at h;cases h
theorem bq(hK:X.K=Γ.K):ft X (binaryOp .Add) (rD Γ W cz):=λpins s σ H x y v u Q I rx ry ⟨Hs,d1,d2,r,sm,r1,r2,e,q⟩=>by
 cases d1 with
 |int i=>
  cases d2 with
  |int j=>cases e;exact Gr pins s σ H x y v u Q I rx ry ⟨i,j,ai.mp r1,ai.mp r2,d6 sm q (ai.mpr rfl)⟩
  |non=>cases e
  |bl _=>cases e
  |str _=>cases e
  |tup _=>cases e
  |lst _=>cases e
  |fn _ _=>cases e
  |obj _ _ _=>cases e
 |str i=>
  cases d2 with
  |str j=>
   obtain⟨hl,rfl⟩:=bj (c:=i.length+j.length<=lim) e;exact wa pins s σ H x y v u Q I rx ry ⟨i,j,aK.mp r1,aK.mp r2,iW hl,d6 sm q (aK.mpr rfl)⟩
  |non=>cases e
  |bl _=>cases e
  |int _=>cases e
  |tup _=>cases e
  |lst _=>cases e
  |fn _ _=>cases e
  |obj _ _ _=>cases e
 |tup ds=>
  cases d2 with
  |tup es=>
   obtain⟨hl,rfl⟩:=bj (c:=ds.length+es.length<=lim) e;obtain⟨a,xs,rfl,qa,la⟩:=aF.mp r1;obtain⟨b,ys,rfl,qb,lb⟩:=aF.mp r2;have qa':jP X.K H a xs:=by rw[hK];exact bA sm qa
   have qb':jP X.K H b ys:=by rw[hK];exact bA sm qb
   by_cases h0:xs=[]
   ·subst h0;have e0:ds=[]:=List.length_eq_zero_iff.mp la.length;subst e0;exact B3 pins s σ H _ _ v u Q I rx ry ⟨a,b,ys,rfl,rfl,qa',qb',d6 sm q (aF.mpr ⟨b,ys,rfl,qb,lb⟩)⟩
   ·refine DQ pins s σ H _ _ v u Q I rx ry ⟨a,b,xs,ys,rfl,rfl,qa',qb',h0,by rw[←la.length,←lb.length];exact iW hl,λz=>?_,λz p hp=>qS sm q (la.append lb) hp⟩
    subst z;have e0:es=[]:=List.length_eq_zero_iff.mp lb.length;subst e0;rw[append_nil] at q;exact d6 sm q (aF.mpr ⟨a,xs,rfl,qa,la⟩)
  |non=>cases e
  |bl _=>cases e
  |int _=>cases e
  |str _=>cases e
  |lst _=>cases e
  |fn _ _=>cases e
  |obj _ _ _=>cases e
 |lst ds=>
  cases d2 with
  |lst es=>
   obtain⟨hl,rfl⟩:=bj (c:=ds.length+es.length<=lim) e;obtain⟨a,xs,rfl,qa,la⟩:=aT.mp r1;obtain⟨b,ys,rfl,qb,lb⟩:=aT.mp r2;exact DR pins s σ H _ _ v u Q I rx ry ⟨a,b,xs,ys,rfl,rfl,by rw[hK];exact aB.seq sm qa,by rw[hK];exact aB.seq sm qb,by rw[←la.length,←lb.length];exact iW hl,λp hp=>qT sm q (la.append lb) hp⟩
  |non=>cases e
  |bl _=>cases e
  |int _=>cases e
  |str _=>cases e
  |tup _=>cases e
  |fn _ _=>cases e
  |obj _ _ _=>cases e
 |_=>cases e
theorem cW{f:Int->Int->Option R}{g:D->D->Option R}(hg:∀d1 d2,g d1 d2=match d1,d2 with|.int i,.int j=>f i j|_,_=>none){d1 d2:D}{r:R}(e:g d1 d2=some r):∃i j,d1=.int i/\d2=.int j/\f i j=some r:=by
 rw[hg] at e;cases d1 with
 |int i=>
  cases d2 with
  |int j=>exact⟨i,j,rfl,rfl,e⟩
  |non=>cases e
  |bl _=>cases e
  |str _=>cases e
  |tup _=>cases e
  |lst _=>cases e
  |fn _ _=>cases e
  |obj _ _ _=>cases e
 |_=>cases e
theorem kB:ft X (binaryOp .Sub) (rD Γ W uR):=λpins s σ H x y v u Q I rx ry ⟨Hs,d1,d2,r,sm,r1,r2,e,q⟩=>by
 obtain⟨i,j,rfl,rfl,e⟩:=cW (f:=λi j=>okI (i - j)) (λ_ _=>rfl) e;cases e;exact Gi pins s σ H x y v u Q I rx ry ⟨i,j,ai.mp r1,ai.mp r2,d6 sm q (ai.mpr rfl)⟩
theorem pD{i:Int}(h:gm i=true):-(2 ^ 64)<i/\i<2 ^ 64:=by
 unfold gm at h;simpa using h
theorem bR:ft X (binaryOp .Mod) (rD Γ W dMod):=λpins s σ H x y v u Q I rx ry ⟨Hs,d1,d2,r,sm,r1,r2,e,q⟩=>by
 obtain⟨i,j,rfl,rfl,e⟩:=cW (f:=λi j=>if 0<j then okI (i % j) else none) (λ_ _=>rfl) e;obtain⟨h,rfl⟩:=bj e;exact Gp pins s σ H x y v u Q I rx ry ⟨i,j,ai.mp r1,ai.mp r2,h,d6 sm q (ai.mpr rfl)⟩
theorem AZ:ft X (binaryOp .FloorDiv) (rD Γ W y0):=λpins s σ H x y v u Q I rx ry ⟨Hs,d1,d2,r,sm,r1,r2,e,q⟩=>by
 obtain⟨i,j,rfl,rfl,e⟩:=cW (f:=λi j=>if 0<j/\j<1073741824 then okI (i / j) else none) (λ_ _=>rfl) e;obtain⟨h,rfl⟩:=bj e;exact DP pins s σ H x y v u Q I rx ry ⟨i,j,ai.mp r1,ai.mp r2,h,d6 sm q (ai.mpr rfl)⟩
theorem w9:ft X (compareOp .Lt) (rD Γ W EF):=λpins s σ H x y v u Q I rx ry ⟨Hs,d1,d2,r,sm,r1,r2,e,q⟩=>by
 obtain⟨i,j,rfl,rfl,e⟩:=cW (f:=λi j=>okB (decide (i<j))) (λ_ _=>rfl) e;cases e;exact IA pins s σ H x y v u Q I rx ry ⟨i,j,ai.mp r1,ai.mp r2,d6 sm q (az.mpr rfl)⟩
theorem nq:ft X (compareOp .Gt) (rD Γ W xZ):=λpins s σ H x y v u Q I rx ry ⟨Hs,d1,d2,r,sm,r1,r2,e,q⟩=>by
 obtain⟨i,j,rfl,rfl,e⟩:=cW (f:=λi j=>okB (decide (j<i))) (λ_ _=>rfl) e;cases e;exact IB pins s σ H x y v u Q I rx ry ⟨i,j,ai.mp r1,ai.mp r2,d6 sm q (az.mpr rfl)⟩
theorem jn:ft X (binaryOp .Mult) (rD Γ W nW):=λpins s σ H x y v u Q I rx ry ⟨Hs,d1,d2,r,sm,r1,r2,e,q⟩=>by
 cases d1 with
 |int i=>
  cases d2 with
  |int j=>
   obtain⟨hl,rfl⟩:=bj (c:=(gm i || gm j)=true) e;refine Gn pins s σ H x y v u Q I rx ry ⟨i,j,ai.mp r1,ai.mp r2,?_,d6 sm q (ai.mpr rfl)⟩;rcases Bool.or_eq_true_iff.mp hl with h|h
   ·exact .inl (pD h)
   ·exact .inr (pD h)
  |non=>cases e
  |bl _=>cases e
  |str _=>cases e
  |tup _=>cases e
  |lst _=>cases e
  |fn _ _=>cases e
  |obj _ _ _=>cases e
 |_=>cases e
theorem uM{d1 d2:D}{b:Bool}{x y:V}{H:Hp}(e:Fx d1 d2=some b)(r1:Rep Γ H d1 x)(r2:Rep Γ H d2 y):FS x y=true/\decide (x=y)=b:=by
 cases d1 with
 |non=>
  rw[bc.mp r1];cases d2 with
  |non=>rw[bc.mp r2];cases e;exact⟨rfl,rfl⟩
  |bl _=>rw[az.mp r2];cases e;exact⟨rfl,rfl⟩
  |int _=>rw[ai.mp r2];cases e;exact⟨rfl,rfl⟩
  |str _=>rw[aK.mp r2];cases e;exact⟨rfl,rfl⟩
  |tup _=>cases e
  |lst _=>cases e
  |fn _ _=>cases e
  |obj _ _ _=>cases e
 |bl c=>
  rw[az.mp r1];cases d2 with
  |non=>rw[bc.mp r2];cases e;exact⟨rfl,rfl⟩
  |bl c'=>rw[az.mp r2];cases e;exact⟨rfl,by rw[Bool.eq_iff_iff];simp⟩
  |int _=>cases e
  |str _=>rw[aK.mp r2];cases e;exact⟨rfl,rfl⟩
  |tup _=>cases e
  |lst _=>cases e
  |fn _ _=>cases e
  |obj _ _ _=>cases e
 |int c=>
  rw[ai.mp r1];cases d2 with
  |non=>rw[bc.mp r2];cases e;exact⟨rfl,rfl⟩
  |bl _=>cases e
  |int c'=>rw[ai.mp r2];cases e;exact⟨rfl,by rw[Bool.eq_iff_iff];simp⟩
  |str _=>rw[aK.mp r2];cases e;exact⟨rfl,rfl⟩
  |tup _=>cases e
  |lst _=>cases e
  |fn _ _=>cases e
  |obj _ _ _=>cases e
 |str c=>
  rw[aK.mp r1];cases d2 with
  |non=>rw[bc.mp r2];cases e;exact⟨rfl,rfl⟩
  |bl _=>rw[az.mp r2];cases e;exact⟨rfl,rfl⟩
  |int _=>rw[ai.mp r2];cases e;exact⟨rfl,rfl⟩
  |str c'=>rw[aK.mp r2];cases e;exact⟨rfl,by rw[Bool.eq_iff_iff];simp⟩
  |tup _=>cases e
  |lst _=>cases e
  |fn _ _=>cases e
  |obj _ _ _=>cases e
 |_=>cases e
theorem gq:ft X (compareOp .Eq) (rD Γ W pf):=λpins s σ H x y v u Q I rx ry ⟨Hs,d1,d2,r,sm,r1,r2,e,q⟩=>by
 unfold pf at e;cases h:Fx d1 d2 with
 |none=>rw[h] at e;cases e
 |some b=>
  rw[h] at e;cases e;obtain⟨h1,h2⟩:=uM h r1 r2;exact IC pins s σ H x y v u Q I rx ry ⟨h1,by rw[h2];exact d6 sm q (az.mpr rfl)⟩
theorem w6:ft X (compareOp .NotEq) (rD Γ W Ci):=λpins s σ H x y v u Q I rx ry ⟨Hs,d1,d2,r,sm,r1,r2,e,q⟩=>by
 unfold Ci at e;cases h:Fx d1 d2 with
 |none=>rw[h] at e;cases e
 |some b=>
  rw[h] at e;cases e;obtain⟨h1,h2⟩:=uM h r1 r2;exact Iz pins s σ H x y v u Q I rx ry ⟨h1,by rw[h2];exact d6 sm q (az.mpr rfl)⟩
theorem Gc{a b:Expr}{ga gb:ME}{pos:Pos}(ha:PD X Γ W a ga)(hb:PD X Γ W b gb):PD X Γ W (.BinOp a .Mult b pos) (Cd ga gb):=PE.imp (Fj Gk ha hb) λ_ _ σ H Q _ ⟨B0,B1,Hs,ρ,r,re,e,q⟩=>by
 unfold Cd at e;cases h:ga ρ with
 |none=>rw[h] at e;cases e
 |some x=>
  rw[h] at e;refine⟨B0,B1,Hs,ρ,x,re,h,?_⟩;cases x with
  |exc y=>cases e;exact q
  |ok s=>
   cases s with
   |sh d=>cases e
   |two _ _ _=>cases e
   |own o=>
    cases o with
    |obj _ _ _=>cases e
    |dic _=>cases e
    |par _ _=>cases e
    |fdic _=>cases e
    |tab _=>cases e
    |dik _=>cases e
    |lst ds=>
     intro v Hs1 H1 g1 rs;obtain⟨p,ho,rfl,h0,h1,h2,xs,rfl,rl⟩:=rs;refine(bK (k:=Jh ds) (re.grow g1) e (q.grow g1)).mono λu H2 ⟨Hs2,d2,g2,re2,rp2,e2,q2⟩=>?_;cases d2 with
     |int k=>
      obtain⟨hl,rfl⟩:=bj (c:=-(2 ^ 60)<=k/\k<2 ^ 60/\ds.length * k.toNat<=lim) e2;exact⟨p,k,xs,rfl,ai.mp rp2,g2.h _ _ h2,by omega,by omega,by rw[←rl.length];exact iW hl.2.2,λp hp=>qT re2.b.i q2 ((rl.mono g2.s).rep _) hp⟩
     |non=>cases e2
     |bl _=>cases e2
     |str _=>cases e2
     |tup _=>cases e2
     |lst _=>cases e2
     |fn _ _=>cases e2
     |obj _ _ _=>cases e2
theorem yf{H:Hp}{ds:List D}{xs:List V}{i:Int}{d:D}(rl:RepL Γ H ds xs)(e:xf ds i=some d):∃x,Hk xs i=some x/\Rep Γ H d x:=by
 unfold xf at e;unfold Hk;have hl:=rl.length;have e0:IU xs.length i=IV ds.length i:=by rw[hl];rfl
 rw[e0];cases h:IV ds.length i with
 |none=>rw[h] at e;cases e
 |some j=>
  rw[h] at e;exact rl.get e
theorem ixd(hK:X.K=Γ.K):CK X (rD Γ W dIx):=λvalue slice pins s σ H x y v u Q I rx ry ⟨Hs,d1,d2,r,sm,r1,r2,e,q⟩ hs=>by
 cases d2 with
 |int i=>
  have ey:=ai.mp r2;cases d1 with
  |tup ds=>
   have e:(xf ds i).bind okD=some r:=e;cases h:xf ds i with
   |none=>rw[h] at e;cases e
   |some d=>
    rw[h] at e;cases e;obtain⟨a,xs,rfl,qa,la⟩:=aF.mp r1;obtain⟨z,ez,rz⟩:=yf la h;exact ix_tup value slice pins s σ H _ _ v u Q I rx ry ⟨a,xs,i,z,rfl,ey,by rw[hK];exact bA sm qa,ez,d6 sm q rz⟩ hs
  |lst ds=>
   have e:(xf ds i).bind okD=some r:=e;cases h:xf ds i with
   |none=>rw[h] at e;cases e
   |some d=>
    rw[h] at e;cases e;obtain⟨a,xs,rfl,qa,la⟩:=aT.mp r1;obtain⟨z,ez,rz⟩:=yf la h;exact Ec value slice pins s σ H _ _ v u Q I rx ry ⟨a,xs,i,z,rfl,ey,by rw[hK];exact aB.seq sm qa,ez,d6 sm q rz⟩ hs
  |str z=>
   have e':(if z.length<=lim then(xf z.cps.toList i).bind (λc=>okD (.str ⟨#[c]⟩)) else none)=some r:=e;by_cases hl:z.length<=lim
   ·rw[if_pos hl] at e';cases h:xf z.cps.toList i with
    |none=>rw[h] at e';cases e'
    |some c=>
     rw[h] at e';cases e';exact GK value slice pins s σ H _ _ v u Q I rx ry ⟨z,i,c,aK.mp r1,ey,iW hl,h,d6 sm q (aK.mpr rfl)⟩ hs
   ·rw[if_neg hl] at e';cases e'
  |non=>cases e
  |bl _=>cases e
  |int _=>cases e
  |fn _ _=>cases e
  |obj _ _ _=>cases e
 |_=>cases d1 <;> cases e
theorem rY{F:D->Option R}{ds:List D}{r:R}(h:f1 F ds=some r):∃d,ds=[d]/\F d=some r:=by
 match ds,h with
 |[d],h=>exact⟨d,rfl,h⟩
theorem El{F:D->D->Option R}{ds:List D}{r:R}(h:f2 F ds=some r):∃d e,ds=[d,e]/\F d e=some r:=by
 match ds,h with
 |[d,e],h=>exact⟨d,e,rfl,h⟩
theorem xB{H:Hp}{d:D}{xs:List V}(h:RepL Γ H [d] xs):∃x,xs=[x]/\Rep Γ H d x:=by
 obtain⟨x,r,e,q,t⟩:=aJ.mp h;rw[bQ.mp t] at e;exact⟨x,e,q⟩
theorem ik(hK:X.K=Γ.K):cZ X (.builtin "len") (yF Γ W (f1 fV)):=λpins s σ H xs us Q I rs ⟨Hs,ds,r,sm,rl,e,q,tb⟩=>by
 obtain⟨d,rfl,e⟩:=rY e;obtain⟨x,rfl,rp⟩:=xB rl;cases d with
 |tup ds=>
  cases e;obtain⟨a,ys,rfl,qa,la⟩:=aF.mp rp;exact kO pins s σ H _ us Q I rs ⟨a,ys,rfl,.inr (by rw[hK];exact bA sm qa),by rw[←la.length];exact d6 sm q (ai.mpr rfl)⟩
 |lst ds=>
  cases e;obtain⟨a,ys,rfl,qa,la⟩:=aT.mp rp;exact kO pins s σ H _ us Q I rs ⟨a,ys,rfl,.inl (by rw[hK];exact aB.seq sm qa),by rw[←la.length];exact d6 sm q (ai.mpr rfl)⟩
 |str z=>
  obtain⟨hl,rfl⟩:=bj (c:=z.length<=lim) e;rw[aK.mp rp] at rs;exact so pins s σ H _ us Q I rs ⟨z,rfl,iW hl,d6 sm q (ai.mpr rfl)⟩
 |_=>cases e
theorem kN(hK:X.K=Γ.K):cZ X (.type "tuple") (yF Γ W (f1 nU)):=λpins s σ H xs us Q I rs ⟨Hs,ds,r,sm,rl,e,q,tb⟩=>by
 obtain⟨d,rfl,e⟩:=rY e;obtain⟨x,rfl,rp⟩:=xB rl;cases d with
 |tup ds=>
  cases e;obtain⟨a,ys,rfl,qa,la⟩:=aF.mp rp;exact jL pins s σ H _ us Q I rs ⟨a,ys,rfl,.inr ⟨by rw[hK];exact bA sm qa,d6 sm q rp⟩⟩
 |lst ds=>
  cases e;obtain⟨a,ys,rfl,qa,la⟩:=aT.mp rp;exact jL pins s σ H _ us Q I rs ⟨a,ys,rfl,.inl ⟨by rw[hK];exact aB.seq sm qa,λp hp=>qS sm q la hp⟩⟩
 |_=>cases e
theorem Gd{a:Expr}{g:ME}{j pos pos'}(h:PD X Γ W a g):PD X Γ W (.Compare a [.Is] [.Constant .none j pos'] pos) (jw sf g):=PE.imp (Ga (w5 h)) λ_ _ σ H Q _ ⟨B0,B1,Hs,ρ,r,re,e,q⟩=>by
 refine(bK re e q).mono λv H1 ⟨Hs1,d,g1,re1,rp,e1,q1⟩=>?_;cases d with
 |non=>cases e1;rw[bc.mp rp];exact q1 _ Hs1 H1 (.refl re1.b.i) (bH.of (az.mpr rfl))
 |bl _=>cases e1;rw[az.mp rp];exact q1 _ Hs1 H1 (.refl re1.b.i) (bH.of (az.mpr rfl))
 |int _=>cases e1;rw[ai.mp rp];exact q1 _ Hs1 H1 (.refl re1.b.i) (bH.of (az.mpr rfl))
 |str _=>cases e1;rw[aK.mp rp];exact q1 _ Hs1 H1 (.refl re1.b.i) (bH.of (az.mpr rfl))
 |tup _=>cases e1;obtain⟨a,_,rfl,_⟩:=aF.mp rp;exact q1 _ Hs1 H1 (.refl re1.b.i) (bH.of (az.mpr rfl))
 |lst _=>cases e1;obtain⟨a,_,rfl,_⟩:=aT.mp rp;exact q1 _ Hs1 H1 (.refl re1.b.i) (bH.of (az.mpr rfl))
 |fn _ _=>cases e1;obtain⟨a,_,rfl,_⟩:=kY.mp rp;exact q1 _ Hs1 H1 (.refl re1.b.i) (bH.of (az.mpr rfl))
 |obj _ _ _=>cases e1;obtain⟨a,_,_,rfl,_⟩:=hV.mp rp;exact q1 _ Hs1 H1 (.refl re1.b.i) (bH.of (az.mpr rfl))
theorem mD{a:Expr}{g:ME}{j pos pos'}(h:PD X Γ W a g):sA X Γ W (.Compare a [.Is] [.Constant .none j pos'] pos) (jw sf g):=PT.imp (qW (w5 h)) λ_ _ σ H Q _ t=>by
 have t':=sT t;obtain⟨B0,B1,Hs,ρ,r,re,e,q⟩:=t';refine(bK re e q).mono λv H1 ⟨Hs1,d,g1,re1,rp,e1,q1⟩=>?_;cases d with
 |non=>cases e1;rw[bc.mp rp];exact q1 _ Hs1 H1 (.refl re1.b.i) (bH.of (az.mpr rfl))
 |bl _=>cases e1;rw[az.mp rp];exact q1 _ Hs1 H1 (.refl re1.b.i) (bH.of (az.mpr rfl))
 |int _=>cases e1;rw[ai.mp rp];exact q1 _ Hs1 H1 (.refl re1.b.i) (bH.of (az.mpr rfl))
 |str _=>cases e1;rw[aK.mp rp];exact q1 _ Hs1 H1 (.refl re1.b.i) (bH.of (az.mpr rfl))
 |tup _=>cases e1;obtain⟨a,_,rfl,_⟩:=aF.mp rp;exact q1 _ Hs1 H1 (.refl re1.b.i) (bH.of (az.mpr rfl))
 |lst _=>cases e1;obtain⟨a,_,rfl,_⟩:=aT.mp rp;exact q1 _ Hs1 H1 (.refl re1.b.i) (bH.of (az.mpr rfl))
 |fn _ _=>cases e1;obtain⟨a,_,rfl,_⟩:=kY.mp rp;exact q1 _ Hs1 H1 (.refl re1.b.i) (bH.of (az.mpr rfl))
 |obj _ _ _=>cases e1;obtain⟨a,_,_,rfl,_⟩:=hV.mp rp;exact q1 _ Hs1 H1 (.refl re1.b.i) (bH.of (az.mpr rfl))
def kQ(K:Frag)(T:String):Prop:=∀t∈["NoneType","bool","int","str","tuple","list"],PySem.W.kitOne K (.type t) (.type T)=some (t == T || (t == "bool" && T == "int"))
theorem FO{T:String}{g:ME}(hK:X.K=Γ.K)(h:kQ X.K T){σ:L2.St}{H:Hp}{Q:VK}(t:tD Γ W (jw (Cj T) g) σ H Q):
  tD Γ W g σ H λx H1=>∃y t U b,[x,V.ty T]=[y,V.ty U]/\(kf X.K H1 y (.type t)\/(t = "tuple" /\ ∃a xs,y=.ref a/\jP X.K H1 a xs)\/(t = "list" /\ ∃a xs,y=.ref a/\jE X.K H1 a xs))/\PySem.W.kitOne X.K (.type t) (.type U)=some b/\Q (.bl b) H1:=by
 obtain⟨B0,B1,Hs,ρ,r,re,e,q⟩:=t;refine(bK re e q).mono λv H1 ⟨Hs1,d,g1,re1,rp,e1,q1⟩=>?_;have fin:∀t:String,Cj T d=okB (t == T || (t == "bool" && T == "int"))->Q (.bl (t == T || (t == "bool" && T == "int"))) H1:=λt z=>by
  rw[z] at e1;cases e1;exact q1 _ Hs1 H1 (.refl re1.b.i) (bH.of (az.mpr rfl))
 cases d with
 |non=>rw[bc.mp rp];exact⟨_,"NoneType",T,_,rfl,.inl .non,h _ (by simp),fin _ rfl⟩
 |bl _=>rw[az.mp rp];exact⟨_,"bool",T,_,rfl,.inl (.bl _),h _ (by simp),fin _ rfl⟩
 |int _=>rw[ai.mp rp];exact⟨_,"int",T,_,rfl,.inl (.int _),h _ (by simp),fin _ rfl⟩
 |str _=>rw[aK.mp rp];exact⟨_,"str",T,_,rfl,.inl (.str _),h _ (by simp),fin _ rfl⟩
 |tup _=>obtain⟨a,xs,rfl,qa,_⟩:=aF.mp rp;exact⟨_,"tuple",T,_,rfl,.inr (.inl ⟨rfl,a,xs,rfl,by rw[hK];exact bA re1.b.i qa⟩),h _ (by simp),fin _ rfl⟩
 |lst _=>
  obtain⟨a,xs,rfl,qa,_⟩:=aT.mp rp;exact⟨_,"list",T,_,rfl,.inr (.inr ⟨rfl,a,xs,rfl,by rw[hK];exact aB.seq re1.b.i qa⟩),h _ (by simp),fin _ rfl⟩
 |fn _ _=>cases e1
 |obj _ _ _=>cases e1
theorem AR{a:Expr}{g:ME}{T:String}{tn:Str}{p p' pos:Pos}(hK:X.K=Γ.K)(hk:kQ X.K T)(hg:Gl X "isinstance")(hm:X.mg "isinstance" = none)(hg2:Gl X tn)(hm2:X.mg tn=none)(hb:bootBuiltins tn=some (.type T))(h:PD X Γ W a g)
  (hn:tn ≠ "__name__" := by decide) (hdb:(tn == ("__debug__":Str))=false:=by decide) (hs1:starEach [a,.Name tn p'] X.env=(false,eval a X.env)::starEach [.Name tn p'] X.env:=by rfl) (hs2:starEach [.Name tn p'] X.env=(false,eval (.Name tn p') X.env)::starEach [] X.env:=by rfl)
  (hpl:(backTo pos (starEach [.Name tn p'] X.env)).any (·.1)=false:=by rfl):PD X Γ W (.Call (.Name "isinstance" p) [a,.Name tn p'] [] pos) (jw (Cj T) g):=
 PE.imp (iM uX hg hm boot_isinstance (bF h (bF (xG (v:=.ty T) hg2 hm2 hb rfl hn hdb) eY hs2) hs1) (by decide) (by decide) hs1 hpl) λ_ _ _ _ _ _ t=>FO hK hk t
end
section
variable{X:Cx}{Γ:Ct}{W:XW}{i:Nat}{x:Str}{e ex:Expr}{ge gx:ME}{px apos cpos pos:Pos}
theorem pO{i:Nat}{ρ:av}{k:List D->Option Out}{o:Out}(h:z9 i ρ k=some o):∃ds,ρ[i]?=some (some (.own (.lst ds)))/\k ds=some o:=by
 unfold z9 at h;split at h
 ·rename_i ds hd;exact⟨ds,hd,h⟩
 ·cases h
theorem i0(hv:PE X (.Name x px) (jD i))(he:PD X Γ W e ge)(hs:starEach [e] X.env=(false,eval e X.env)::starEach [] X.env:=by rfl)
  (hbase:attributeBase (.Name x px) "append" X.env (eval (.Name x px) X.env)=eval (.Name x px) X.env:=by rfl)
  (hfew:((backTo cpos (starEach [e] X.env)).all (λx=>!x.1) && (backToKw cpos (keywordEach [] X.env)).all (λx=>x.1.isSome) && decide ([e].length+([]:List Keyword).length+(if([]:List Keyword).isEmpty then 0 else 1)<30))=true:=by rfl)
  (hline:(apos.endLine == cpos.line)=true:=by rfl) (hplain:(backTo cpos (starEach [] X.env)).any (·.1)=false:=by rfl) (hsw:swapsWith (.Call (.Attribute (.Name x px) "append" apos) [e] [] cpos) none pos.line X.env=pure false:=by rfl):
  vd X Γ W (.Expr (.Call (.Attribute (.Name x px) "append" apos) [e] [] cpos) pos) (hU i ge):=
 PS.imp (mF (Fk PySem.F.plainAttrs_list PySem.F.slot_list_append PySem.F.type_list_append pS hv (bF he eY hs) hbase hfew hline hs hplain) hsw) λpins s σ H En I ⟨B0,B1,Hs,ρ,o,re,eo,q⟩=>by
  obtain⟨ds,hd,eo⟩:=pO eo;obtain⟨a,ho,e1,e2,e3,e4,xs,rfl,rl⟩:=re.own i _ hd;refine⟨.ref a,e1,.inl ⟨rfl,xs,.of e4⟩,(D3 re eo q).mono λy H1 ⟨Hs1,s,g1,rs,e5⟩=>?_⟩;obtain⟨hl,rfl⟩:=bj e5;obtain⟨Hs2,g2,_,rp⟩:=rs.share g1;refine⟨a,xs,y,rfl,rfl,g2.h _ _ e4,by rw[←rl.length];exact lt_of_lt_of_le hl (by decide),q σ Hs2 _ g2.s ((re.grow g2).write hd e1 ⟨_,rfl,(rl.mono g2.s).append (.cons rp .nil)⟩)⟩
theorem vV(hK:X.K=Γ.K)(hv:PE X (.Name x px) (jD i))(he:PD X Γ W e ge)(hs:starEach [e] X.env=(false,eval e X.env)::starEach [] X.env:=by rfl)
  (hbase:attributeBase (.Name x px) "extend" X.env (eval (.Name x px) X.env)=eval (.Name x px) X.env:=by rfl)
  (hfew:((backTo cpos (starEach [e] X.env)).all (λx=>!x.1) && (backToKw cpos (keywordEach [] X.env)).all (λx=>x.1.isSome) && decide ([e].length+([]:List Keyword).length+(if([]:List Keyword).isEmpty then 0 else 1)<30))=true:=by rfl)
  (hline:(apos.endLine == cpos.line)=true:=by rfl) (hplain:(backTo cpos (starEach [] X.env)).any (·.1)=false:=by rfl) (hsw:swapsWith (.Call (.Attribute (.Name x px) "extend" apos) [e] [] cpos) none pos.line X.env=pure false:=by rfl):
  vd X Γ W (.Expr (.Call (.Attribute (.Name x px) "extend" apos) [e] [] cpos) pos) (mB i ge):=
 PS.imp (mF (Fk PySem.F.plainAttrs_list PySem.F.slot_list_extend PySem.F.type_list_extend (HK.or wu wt) hv (bF he eY hs) hbase hfew hline hs hplain) hsw) λpins s σ H En I ⟨B0,B1,Hs,ρ,o,re,eo,q⟩=>by
  obtain⟨ds,hd,eo⟩:=pO eo;obtain⟨a,ho,e1,e2,e3,e4,xs,rfl,rl⟩:=re.own i _ hd;refine⟨.ref a,e1,.inl ⟨rfl,xs,.of e4⟩,(D3 re eo q).mono λy H1 ⟨Hs1,s,g1,rs,e5⟩=>?_⟩;obtain⟨Hs2,g2,_,rp⟩:=rs.share g1;have wr:∀{es:List D}{ys:List V},RepL Γ Hs2 es ys->o=.next (ρ.set i (some (.own (.lst (ds++es)))))->En.nx σ (aS H1 a (.lst (xs++ys))):=λ{es ys} rl2 eo=>by
   subst eo;exact q σ Hs2 _ g2.s ((re.grow g2).write hd e1 ⟨_,rfl,(rl.mono g2.s).append rl2⟩)
  cases hv:s.val with
  |lst es=>
   rw[hv] at e5 rp;obtain⟨hl,eo⟩:=bj (c:=ds.length+es.length<=lim) e5;obtain⟨b,ys,rfl,rd,rl2⟩:=aT.mp rp;exact .inl ⟨a,b,xs,ys,rfl,rfl,g2.h _ _ e4,by rw[hK];exact aB.seq g2.i rd,by rw[←rl.length,←rl2.length];exact iW hl,wr rl2 eo.symm⟩
  |tup es=>
   rw[hv] at e5 rp;obtain⟨hl,eo⟩:=bj (c:=ds.length+es.length<=lim) e5;obtain⟨b,ys,rfl,sq,rl2⟩:=aF.mp rp;exact .inr ⟨a,b,xs,ys,rfl,rfl,g2.h _ _ e4,by rw[hK];exact bA g2.i sq,by rw[←rl.length,←rl2.length];exact iW hl,wr rl2 eo.symm⟩
  |_=>rw[hv] at e5;cases e5
end
def W0:XW:=λ_ _ _=>False
theorem gF{Γ:Ct}{Hs H:Hp}(sm:aB Hs H){N:List Str}{ds:List D}{vs:List V}(rl:RepL Γ Hs ds vs)(tb:aB Γ.tb Hs):RE Γ Hs H Hs H (L2.start N vs) (aN N.length ds):=by
 have hl:=rl.length;have at':∀(i:Nat)(s:S),(aN N.length ds)[i]?=some (some s)->∃d,s=.sh d/\ds[i]?=some d:=λi s e=>by
  unfold aN at e;by_cases hi:i<ds.length
  ·rw[getElem?_append_left (by simpa using hi),getElem?_map,getElem?_eq_getElem hi] at e
   cases e;exact⟨ds[i],rfl,getElem?_eq_getElem hi⟩
  ·rw[getElem?_append_right (by simpa using hi),getElem?_replicate] at e
   split at e <;> cases e
 refine⟨.refl sm,λi d e=>?_,λi o e=>?_,λi j o u a _ e=>?_,?_,tb⟩
 ·obtain⟨d',e1,e2⟩:=at' i _ e;cases e1;obtain⟨v,e3,q⟩:=rl.get e2;refine⟨v,?_,q⟩;have hi:i<vs.length:=(List.getElem?_eq_some_iff.mp e3).1;unfold L2.start;rw[getElem?_append_left (by simpa using hi),getElem?_map,e3]
  rfl
 ·obtain⟨_,e1,_⟩:=at' i _ e;cases e1
 ·obtain⟨_,e1,_⟩:=at' i _ e;cases e1
 ·unfold aN L2.start;rw[length_append,length_append,length_map,length_map,length_replicate,length_replicate,hl]
section
variable{P:Program}{w:World}{K:Frag}{mg:Str->Option Value}{base:Heap}{Γ:Ct}
theorem kH{np n:Nat}{g:MC}{ds:List D}{r:R}(h:gv np n g ds=some r):ds.length=np/\zd (g (aN n ds))=some r:=by
 unfold gv at h;by_cases z:ds.length=np
 ·rw[if_pos z] at h;exact⟨z,h⟩
 ·rw[if_neg z] at h;cases h
theorem GR{x qual:Str}{st:Stmt}{f:Addr}{fd:FuncData}{N ps:List Str}{k:Nat}{g:MC}(F:sC K x qual st f fd)(S:ax N ps (a9 st))
  (body:∀(cdv:Value)(A:Around)(outer:List PySem.Env)(s:Shared)(H:Hp)(E:XK),ba k (A.deeper (envOfC qual (a9 st) s.heap.objs.size f cdv))->iC (iB jg P w K mg base N qual (a9 st) f cdv A outer s H E).nox Γ W0 (ao st) g):
  bV P w K mg base jg (k+1) f fd ps (A0 Γ W0 (gv ps.length N.length g)):=by
 refine F.ok S (λvs H Q E ⟨Hs,ds,r,sm,rl,e,q,tb⟩=>?_) (λcdv A outer s H vs Q E hr ⟨Hs,ds,r,sm,rl,e,q,tb⟩=>?_)
 ·rw[←rl.length];exact(kH e).1
 ·obtain⟨_,e⟩:=kH e;refine⟨tS Γ W0 g,body cdv A outer s H E hr,?_⟩;cases h:g (aN N.length ds) with
  |none=>rw[h] at e;cases e
  |some o=>
   rw[h] at e;refine⟨Hs,H,Hs,aN N.length ds,o,gF sm rl tb,h,?_⟩;cases o with
   |next ρ'=>cases e;exact λσ' Hs' H' _ re=>q .non Hs' H' re.b (bH.of (bc.mpr rfl))
   |brk ρ'=>cases e
   |cont ρ'=>cases e
   |ret s=>cases e;exact λv Hs' H' _ g' rs=>q v Hs' H' g' rs
   |exc x=>cases e;exact λHs' H' _ g'=>q Hs' H' g'
theorem bV.le{f:Addr}{fd:FuncData}{ps:List Str}{k:Nat}{F G:List D->Option R}(h:bV P w K mg base jg k f fd ps (A0 Γ W0 F))(l:∀ds r,G ds=some r->F ds=some r):bV P w K mg base jg k f fd ps (A0 Γ W0 G):=
 h.imp λvs H Q E ⟨Hs,ds,r,sm,rl,e,q,tb⟩=>⟨Hs,ds,r,sm,rl,l _ _ e,q,tb⟩
end
theorem BB(K:Frag):kQ K "tuple" /\ kQ K "list" /\ kQ K "bool" /\ kQ K "int" /\ kQ K "str" := by
 refine⟨?_,?_,?_,?_,?_⟩ <;>
 ·intro t ht;have:t = "NoneType" \/ t = "bool" \/ t = "int" \/ t = "str" \/ t = "tuple" \/ t = "list" := by simpa using ht
  rcases this with rfl|rfl|rfl|rfl|rfl|rfl <;> rfl
def cY(P:Program)(w:World)(K:Frag)(mg:Str->Option Value)(base:Heap)(Γ:Ct)(k:Nat)(x:Str)(ps:List Str)(F:List D->Option R):Prop:=
 ∃f fd,bV P w K mg base jg k f fd ps (A0 Γ W0 F)/\mg x=some (.ref f)/\PySem.W.keepIn K (.ref f)=true/\bO K fd ps []
section
variable{X:Cx}{Γ:Ct}{k:Nat}{ps:List Str}{x:Str}{p pos:Pos}{e:Expr}{es:List Expr}{gs:List ME}{F:List D->Option R}
theorem b8(h:cY X.prog X.w X.K X.mg X.base Γ k x ps F)(hr:ba k X.A)(hg:Gl X x)(ha:kh X Γ W0 (e::es) gs)(hdb:(x == ("__debug__":Str))=false:=by decide)(he:starEach (e::es) X.env=(false,eval e X.env)::starEach es X.env:=by rfl)(hpl:(backTo pos (starEach es X.env)).any (·.1)=false:=by rfl):
  PD X Γ W0 (.Call (.Name x p) (e::es) [] pos) (au F gs):=by
 obtain⟨f,fd,G,hm,hk,hb⟩:=h;exact DF G hr hg hm hk hb ha hdb he hpl
end
structure bu(K:Frag)(mg:Str->Option Value)(x:Str)(st:Stmt)(ps:List Str):Prop where
 ex:∃f fd,sC K x x st f fd/\mg x=some (.ref f)/\bO K fd ps []
section
variable{P:Program}{w:World}{K:Frag}{mg:Str->Option Value}{base:Heap}{Γ:Ct}
theorem bf{x:Str}{st:Stmt}{N ps:List Str}{k:Nat}{g:MC}(L:bu K mg x st ps)(S:ax N ps (a9 st))
  (body:∀(f:Addr)(cdv:Value)(A:Around)(outer:List PySem.Env)(s:Shared)(H:Hp)(E:XK),ba k (A.deeper (envOfC x (a9 st) s.heap.objs.size f cdv))->iC (iB jg P w K mg base N x (a9 st) f cdv A outer s H E).nox Γ W0 (ao st) g):
  cY P w K mg base Γ (k+1) x ps (gv ps.length N.length g):=by
 obtain⟨f,fd,F,hm,hb⟩:=L.ex;exact⟨f,fd,GR F S (body f),hm,F.kp,hb⟩
theorem cY.mono{j k:Nat}{x:Str}{ps:List Str}{F:List D->Option R}(h:cY P w K mg base Γ j x ps F)(l:j<=k):cY P w K mg base Γ k x ps F:=by
 obtain⟨f,fd,G,r⟩:=h;exact⟨f,fd,G.mono l,r⟩
theorem cY.le{k:Nat}{x:Str}{ps:List Str}{F G:List D->Option R}(h:cY P w K mg base Γ k x ps F)(l:∀ds r,G ds=some r->F ds=some r):cY P w K mg base Γ k x ps G:=by
 obtain⟨f,fd,o,r⟩:=h;exact⟨f,fd,bV.le o l,r⟩
theorem aU{h:Heap}(X:K.In h)(G:h.Ns mainGlobals mg){x:Str}{st:Stmt}{ps:List Str}{f:Addr}{oc:Value}{od an:Option Addr}{osl:Array (Option Value)}{kV doc pm cdv ct:Value}(a:PySem.W.nsIn K mainGlobals x=some (some (.ref f)))
  (l:K.lookup f=some ⟨oc,od,.func (fnOf x x (aw st) (ao st) (a9 st) .none kV doc pm an cdv ct),osl⟩) (c:codeIn K cdv x=true) (k:PySem.W.keepIn K (.ref f)=true)
  (hb:∀(kV doc pm:Value)(an:Option Addr)(cdv ct:Value)(us:List Value),us.length=ps.length->bindArgs (fnOf x x (aw st) (ao st) (a9 st) .none kV doc pm an cdv ct) ⟨us,[]⟩=pure (ps.zip us)):bu K mg x st ps:=
 ⟨f,_,gu l c k,mg_of X G a,(gu l c k).binds hb⟩
end
theorem zG(K:Frag):kQ K "tuple" := (BB K).1
theorem BC(K:Frag):kQ K "list" := (BB K).2.1
theorem j6:bootBuiltins "tuple" = some (.type "tuple"):=by decide +kernel
theorem EN:bootBuiltins "list" = some (.type "list"):=by decide +kernel
theorem Hg:bootBuiltins "int" = some (.type "int"):=by decide +kernel
section
variable{X:Cx}{Γ:Ct}{W:XW}
theorem DL:ft X (binaryOp .RShift) (rD Γ W Cg):=λpins s σ H x y v u Q I rx ry ⟨Hs,d1,d2,r,sm,r1,r2,e,q⟩=>by
 obtain⟨i,j,rfl,rfl,e⟩:=cW (f:=λi j=>if 0<=j then okI (i / 2 ^ j.toNat) else none) (λ_ _=>rfl) e;obtain⟨h,rfl⟩:=bj e;exact Gj pins s σ H x y v u Q I rx ry ⟨i,j,ai.mp r1,ai.mp r2,h,d6 sm q (ai.mpr rfl)⟩
theorem xJ:ft X (binaryOp .Pow) (rD Γ W EE):=λpins s σ H x y v u Q I rx ry ⟨Hs,d1,d2,r,sm,r1,r2,e,q⟩=>by
 obtain⟨i,j,rfl,rfl,e⟩:=cW (f:=λi j=>if 0<=j/\j<=1000000/\i.natAbs<2 ^ 64 then okI (i ^ j.toNat) else none) (λ_ _=>rfl) e;obtain⟨h,rfl⟩:=bj e;exact Gm pins s σ H x y v u Q I rx ry ⟨i,j,ai.mp r1,ai.mp r2,h,d6 sm q (ai.mpr rfl)⟩
theorem EW{x y:Int}(hx:0<=x)(hy:0<=y):Builtin.bitAnd x y=((x.toNat &&& y.toNat:Nat):Int):=by simp[Builtin.bitAnd,hx,hy]
theorem Hj{x y:Int}(hx:0<=x)(hy:0<=y):Builtin.bitOr x y=((x.toNat ||| y.toNat:Nat):Int):=by
 obtain⟨a,rfl⟩:∃a:Nat,x=a:=⟨x.toNat,by omega⟩
 obtain⟨b,rfl⟩:∃b:Nat,y=b:=⟨y.toNat,by omega⟩
 have h1:¬(0:Int)<=Builtin.bitNot (a:Int):=by unfold Builtin.bitNot;omega
 have h2:¬(0:Int)<=Builtin.bitNot (b:Int):=by unfold Builtin.bitNot;omega
 unfold Builtin.bitOr Builtin.bitAnd;rw[decide_eq_false h1,decide_eq_false h2];dsimp only;have e1:Builtin.bitNot (Builtin.bitNot (a:Int))=a:=by unfold Builtin.bitNot;omega
 have e2:Builtin.bitNot (Builtin.bitNot (b:Int))=b:=by unfold Builtin.bitNot;omega
 rw[e1,e2];simp only[toNat_natCast];unfold Builtin.bitNot;omega
theorem B2:ft X (binaryOp .BitAnd) (rD Γ W uS):=λpins s σ H x y v u Q I rx ry ⟨Hs,d1,d2,r,sm,r1,r2,e,q⟩=>by
 obtain⟨i,j,rfl,rfl,e⟩:=cW (f:=λi j=>if 0<=i/\0<=j then okI ((i.toNat &&& j.toNat:Nat):Int) else none) (λ_ _=>rfl) e;obtain⟨h,rfl⟩:=bj e;exact Gq pins s σ H x y v u Q I rx ry ⟨i,j,ai.mp r1,ai.mp r2,by dsimp only;rw[EW h.1 h.2];exact d6 sm q (ai.mpr rfl)⟩
theorem DO:ft X (binaryOp .BitOr) (rD Γ W Ha):=λpins s σ H x y v u Q I rx ry ⟨Hs,d1,d2,r,sm,r1,r2,e,q⟩=>by
 obtain⟨i,j,rfl,rfl,e⟩:=cW (f:=λi j=>if 0<=i/\0<=j then okI ((i.toNat ||| j.toNat:Nat):Int) else none) (λ_ _=>rfl) e;obtain⟨h,rfl⟩:=bj e;exact Iy pins s σ H x y v u Q I rx ry ⟨i,j,ai.mp r1,ai.mp r2,by dsimp only;rw[Hj h.1 h.2];exact d6 sm q (ai.mpr rfl)⟩
section
variable{a b c:Expr}{ga gb gc:ME}{pos:Pos}
theorem Ir{op:UnaryOp}{f:D->Option R}{rr:V->Hp->VK->Prop}(ho:JD X (unaryOp op) rr)(hf:∀d v Hs H r Q,aB Hs H->Rep Γ Hs d v->f d=some r->RQ Γ W Hs H r Q->rr v H Q)(ha:PD X Γ W a ga):PD X Γ W (.UnaryOp op a pos) (jw f ga):=
 PE.imp (Fi ho ha) λ_ _ σ H Q _ t=>by
  obtain⟨B0,B1,Hs,ρ,r,re,e,q⟩:=t;exact(bK re e q).mono λv H1 ⟨Hs1,d,g1,re1,rp,e1,q1⟩=>hf d v Hs1 H1 r Q re1.b.i rp e1 q1
theorem DC(ha:PD X Γ W a ga):PD X Γ W (.UnaryOp .USub a pos) (jw GY ga):=Ir A9 (λd v Hs H r Q sm rp e q=>by
 cases d with
 |int i=>cases e;exact⟨i,ai.mp rp,d6 sm q (ai.mpr rfl)⟩
 |non=>cases e
 |bl _=>cases e
 |str _=>cases e
 |tup _=>cases e
 |lst _=>cases e
 |fn _ _=>cases e
 |obj _ _ _=>cases e) ha
end
theorem Ii{H:Hp}{d e:D}{xs:List V}(h:RepL Γ H [d,e] xs):∃x y,xs=[x,y]/\Rep Γ H d x/\Rep Γ H e y:=by
 obtain⟨x,r,e1,q,t⟩:=aJ.mp h;obtain⟨y,rfl,q2⟩:=xB t;exact⟨x,y,e1,q,q2⟩
theorem EK(hc:X.calm=true):cZ X (.builtin "min") (yF Γ W (f2 Fz)):=λpins s σ H xs us Q I rs ⟨Hs,ds,r,sm,rl,e,q,tb⟩=>by
 obtain⟨d1,d2,rfl,e⟩:=El e;obtain⟨x,y,rfl,r1,r2⟩:=Ii rl;obtain⟨i,j,rfl,rfl,e⟩:=cW (f:=λi j=>okI (if j<i then j else i)) (λ_ _=>rfl) e;cases e;exact zT hc pins s σ H _ us Q I rs ⟨i,j,by rw[ai.mp r1,ai.mp r2],d6 sm q (ai.mpr rfl)⟩
theorem Hd:cZ X (.type "int") (yF Γ W (f1 Ck)):=λpins s σ H xs us Q I rs ⟨Hs,ds,r,sm,rl,e,q,tb⟩=>by
 obtain⟨d,rfl,e⟩:=rY e;obtain⟨x,rfl,rp⟩:=xB rl;cases d with
 |int i=>cases e;exact ql pins s σ H _ us Q I rs (.inl ⟨i,by rw[ai.mp rp],d6 sm q (ai.mpr rfl)⟩)
 |bl b=>cases e;exact ql pins s σ H _ us Q I rs (.inr ⟨b,by rw[az.mp rp],d6 sm q (ai.mpr rfl)⟩)
 |_=>cases e
theorem Hf:bootBuiltins "min" = some (.builtin "min"):=by decide +kernel
end
section
variable{X:Cx}{Γ:Ct}{W:XW}
theorem km{K:Frag}{Hx Hy:Hp}{bb:Bool}{l:Addr}{zs:List V}(k:aB Hx Hy)(s:xi K Hx bb l zs):xi K Hy bb l zs:=by
 cases bb with
 |true=>exact aB.seq k s
 |false=>exact bA k s
theorem AD{a:Expr}{ga:ME}{p pos tp:Pos}{elts:List Expr}{kt:Nat}(hK:X.K=Γ.K)(hg:Gl X "enumerate")(hm:X.mg "enumerate" = none)(ha:PD X Γ W a ga)(hs1:starEach [a] X.env=(false,eval a X.env)::starEach [] X.env:=by rfl)(hs3:starEach [a] X.env=[(false,eval a X.env)]:=by rfl):
  HJ X Γ W (.Tuple elts kt tp) (.Call (.Name "enumerate" p) [a] [] pos) (xR ga):=PI.imp (Du hg hm (bF ha eY hs1) hs3) λ_ _ σ H Q _ ⟨B0,B1,Hs,ρ,r,re,e,q⟩=>by
 refine(D4 re e q).mono λv H1 ⟨Hs1,d,g1,re1,rp,e1,q1⟩=>?_;have sm:=re1.b.i;have step:∀(bb:Bool)(l:Addr)(xs:List V)(ds:List D),v=.ref l->xi X.K Hs1 bb l xs->RepL Γ Hs1 ds xs->r=.ok ((List.range ds.length).zipWith (λ(i:Nat) d=>D.tup [.int i,d]) ds)->∃b l,[v]=[V.ref l]/\(∃xs,xi X.K H1 b l xs)/\Q (Kw X.K b l) H1:=λbb l xs ds ev s1 rl er=>by
  subst ev er;have hlen:((List.range ds.length).zipWith (λ(i:Nat) d=>D.tup [.int i,d]) ds).length=ds.length:=by rw[List.length_zipWith,length_range,Nat.min_self]
  refine⟨bb,l,rfl,⟨xs,km sm s1⟩,q1 _ Hs1 H1 (.refl sm) ⟨λi Hs3 H3 hi k1 k2=>?_,λHs3 H3 k1 k2=>?_,λi Hs3 H3 x H4 hi k1 k2 y=>?_⟩⟩
  ·rw[hlen] at hi;have i1:i<xs.length:=by rw[←rl.length];omega
   exact⟨xs,xs[i],km (k1.trans k2) s1,getElem?_eq_getElem i1⟩
  ·exact⟨xs,km (k1.trans k2) s1,by rw[hlen,rl.length];exact le_refl _⟩
  ·rw[hlen] at hi;obtain⟨p,u,rfl,hp,rfl,f1⟩:=y;obtain⟨x1,e1,q1'⟩:=rl.get (getElem?_eq_getElem hi);have z1:=f1 xs (km (k1.trans k2) s1);rw[e1] at z1;cases z1;refine⟨.tup [.int i,ds[i]],aS Hs3 p (.tup [.int i,u]),?_,.new k2 hp,?_⟩
   ·rw[List.getElem?_zipWith,getElem?_range hi,getElem?_eq_getElem hi]
   ·have k3:aB Hs3 (aS Hs3 p (.tup [.int i,u])):=bB (k2.free hp);exact aF.mpr ⟨p,[.int i,u],rfl,.of aq,.cons (ai.mpr rfl) (.cons ((q1'.mono k1).mono k3) .nil)⟩
 cases d with
 |lst ds=>
  cases e1;obtain⟨l,xs,ev,s1,rl⟩:=aT.mp rp;rw[←hK] at s1;exact step true l xs ds ev s1 rl rfl
 |tup ds=>
  cases e1;obtain⟨l,xs,ev,s1,rl⟩:=aF.mp rp;rw[←hK] at s1;exact step false l xs ds ev s1 rl rfl
 |_=>cases e1
theorem BY{d:D}{v:V}{H:Hp}(r:Rep Γ H d v)(f:flat d=true):jJ v=true:=by
 cases d with
 |non=>rw[bc.mp r];rfl
 |bl _=>rw[az.mp r];rfl
 |int _=>rw[ai.mp r];rfl
 |str _=>rw[aK.mp r];rfl
 |_=>cases f
theorem Je{d e:D}{v u:V}{H:Hp}(r1:Rep Γ H d v)(r2:Rep Γ H e u)(f1:flat d=true)(f2:flat e=true):CH v u=Kn d e:=by
 cases d with
 |non=>rw[bc.mp r1];cases e with
  |non=>rw[bc.mp r2];rfl
  |bl _=>rw[az.mp r2];rfl
  |int _=>rw[ai.mp r2];rfl
  |str _=>rw[aK.mp r2];rfl
  |tup _=>cases f2
  |lst _=>cases f2
  |fn _ _=>cases f2
  |obj _ _ _=>cases f2
 |bl _=>rw[az.mp r1];cases e with
  |non=>rw[bc.mp r2];rfl
  |bl _=>rw[az.mp r2];rfl
  |int _=>rw[ai.mp r2];rfl
  |str _=>rw[aK.mp r2];rfl
  |tup _=>cases f2
  |lst _=>cases f2
  |fn _ _=>cases f2
  |obj _ _ _=>cases f2
 |int _=>rw[ai.mp r1];cases e with
  |non=>rw[bc.mp r2];rfl
  |bl _=>rw[az.mp r2];rfl
  |int _=>rw[ai.mp r2];rfl
  |str _=>rw[aK.mp r2];rfl
  |tup _=>cases f2
  |lst _=>cases f2
  |fn _ _=>cases f2
  |obj _ _ _=>cases f2
 |str _=>rw[aK.mp r1];cases e with
  |non=>rw[bc.mp r2];rfl
  |bl _=>rw[az.mp r2];rfl
  |int _=>rw[ai.mp r2];rfl
  |str _=>rw[aK.mp r2];rfl
  |tup _=>cases f2
  |lst _=>cases f2
  |fn _ _=>cases f2
  |obj _ _ _=>cases f2
 |_=>cases f1
theorem Fs{x:D}{v:V}{H:Hp}(rx:Rep Γ H x v)(fx:flat x=true):∀{ds:List D}{xs:List V},RepL Γ H ds xs->ds.all flat=true->xs.all jJ=true/\Jy v xs=HG x ds
 |[],xs,h,_=>by rw[bQ.mp h];exact⟨rfl,rfl⟩
 |d::ds,xs,h,f=>by
  obtain⟨y,r,rfl,q,t⟩:=aJ.mp h;rw[List.all_cons,Bool.and_eq_true] at f;obtain⟨i1,i2⟩:=Fs rx fx t f.2;refine⟨by rw[List.all_cons,BY q f.1,i1];rfl,?_⟩
  show(CH y v || Jy v r)=(Kn d x || HG x ds);rw[Je q rx f.1 fx,i2]
theorem Cm{neg:Bool}{d1 d2:D}{r:R}{Hs H:Hp}{x y:V}{Q:VK}(hK:X.K=Γ.K)(sm:aB Hs H)(r1:Rep Γ Hs d1 x)(r2:Rep Γ Hs d2 y)(e:JA neg d1 d2=some r)(q:RQ Γ W Hs H r Q):K6 X.K neg x y H Q:=by
 have fin:∀(ds:List D)(p:Addr)(xs:List V),y=.ref p->(jE X.K H p xs\/jP X.K H p xs)->RepL Γ Hs ds xs->(if flat d1=true/\ds.all flat=true then okB (if neg then !HG d1 ds else HG d1 ds) else none)=some r->K6 X.K neg x y H Q:=λds p xs ey hq rl e=>by
  obtain⟨⟨h1,h2⟩,rfl⟩:=bj e;obtain⟨i1,i2⟩:=Fs r1 h1 rl h2;refine⟨p,xs,ey,hq,BY r1 h1,i1,?_⟩;rw[i2];exact d6 sm q (az.mpr rfl)
 cases d2 with
 |tup ds=>obtain⟨p,xs,ey,sq,rl⟩:=aF.mp r2;exact fin ds p xs ey (.inr (by rw[hK];exact bA sm sq)) rl e
 |lst ds=>obtain⟨p,xs,ey,sq,rl⟩:=aT.mp r2;exact fin ds p xs ey (.inl (by rw[hK];exact aB.seq sm sq)) rl e
 |_=>cases e
theorem ze(hK:X.K=Γ.K):ft X (compareOp .NotIn) (rD Γ W (JA true)):=λpins s σ H x y v u Q I rx ry ⟨Hs,d1,d2,r,sm,r1,r2,e,q⟩=>rh pins s σ H x y v u Q I rx ry (Cm hK sm r1 r2 e q)
theorem mz(n d:Nat)(o:Option Int):HT.sIx n d o=iG n d o:=by cases o <;> rfl
theorem uU{H:Hp}{ds:List D}{xs:List V}(rl:RepL Γ H ds xs)(lo hi:Option Int):RepL Γ H (zQ ds lo hi) (uT xs lo hi):=by
 unfold zQ uT;rw[mz,mz,←rl.length];exact(rl.drop _).take _
def FU(Γ:Ct)(W:XW):V->Option Int->Option Int->Hp->VK->Prop:=λv lo hi H Q=>∃Hs d r,aB Hs H/\Rep Γ Hs d v/\nV d lo hi=some r/\RQ Γ W Hs H r Q
theorem KW(hK:X.K=Γ.K):FD X (FU Γ W):=λpins s σ H x v vl vu lo hi sl Q I rx hs pl pu ⟨Hs,d,r,sm,rp,e,q⟩=>by
 cases d with
 |tup ds=>
  obtain⟨a,xs,rfl,sq,rl⟩:=aF.mp rp;have e':(if iG ds.length 0 lo=0/\iG ds.length ds.length hi=ds.length then none else okD (.tup (zQ ds lo hi)))=some r:=e;by_cases hw:iG ds.length 0 lo=0/\iG ds.length ds.length hi=ds.length
  ·rw[if_pos hw] at e';cases e'
  ·rw[if_neg hw] at e';cases e';exact FQ pins s σ H _ v vl vu lo hi sl Q I rx hs pl pu ⟨a,xs,rfl,by rw[hK];exact bA sm sq,by rw[mz,mz,←rl.length];exact hw,λp hp=>qS sm q (uU rl lo hi) hp⟩
 |lst ds=>
  obtain⟨a,xs,rfl,sq,rl⟩:=aT.mp rp;cases e;exact D8 pins s σ H _ v vl vu lo hi sl Q I rx hs pl pu ⟨a,xs,rfl,by rw[hK];exact aB.seq sm sq,λp hp=>qT sm q (uU rl lo hi) hp⟩
 |_=>cases e
def tP(Γ:Ct)(W:XW)(o:Option ME):TO:=match o with
 |none=>xv
 |some g=>F9 (tD Γ W g)
abbrev JF(X:Cx)(Γ:Ct)(W:XW)(e:Option Expr)(o:Option ME):Prop:=PO X e (tP Γ W o)
theorem kx:JF X Γ W none none:=Dr
theorem ku{e:Expr}{g:ME}(h:PD X Γ W e g):JF X Γ W (some e) (some g):=Dq h
theorem pM{o:Option ME}{B0 B1 Hs H:Hp}{σ:L2.St}{ρ:av}{k:Option Int->Option R}{r:R}{Q:VK}(re:RE Γ B0 B1 Hs H σ ρ)(e:AY o ρ k=some r)(q:RQ Γ W Hs H r Q){Q':Option Int->Hp->Prop}
  (h:∀i H1 Hs1,aW Hs H Hs1 H1->RE Γ B0 B1 Hs1 H1 σ ρ->k i=some r->RQ Γ W Hs1 H1 r Q->Q' i H1):tP Γ W o σ H Q':=by
 cases o with
 |none=>exact h none H Hs (.refl re.b.i) re e q
 |some g=>
  have e':b9 (g ρ) (λd=>match d with|.int i=>k (some i)|_=>none)=some r:=e
  refine(bK re e' q).mono λv H1 ⟨Hs1,d,g1,re1,rp,e1,q1⟩=>?_;cases d with
  |int i=>exact⟨i,ai.mp rp,h (some i) H1 Hs1 g1 re1 e1 q1⟩
  |non=>cases e1
  |bl _=>cases e1
  |str _=>cases e1
  |tup _=>cases e1
  |lst _=>cases e1
  |fn _ _=>cases e1
  |obj _ _ _=>cases e1
theorem ky{e:Expr}{g:ME}{lo hi:Option Expr}{gl gh:Option ME}{pos p2:Pos}(hK:X.K=Γ.K)(he:PD X Γ W e g)(hl:JF X Γ W lo gl)(hh:JF X Γ W hi gh):PD X Γ W (.Subscript e (.Slice lo hi none p2) pos) (ic g gl gh):=
 PE.imp (AJ (KW hK) he hl hh) λ_ _ σ H Q _ ⟨B0,B1,Hs,ρ,r,re,e,q⟩=>by
  refine(bK re e q).mono λv H1 ⟨Hs1,d,g1,re1,rp,e1,q1⟩=>?_;refine pM re1 e1 q1 λl H2 Hs2 g2 re2 e2 q2=>?_;refine pM re2 e2 q2 λu H3 Hs3 g3 re3 e3 q3=>?_;exact⟨Hs3,d,r,re3.b.i,(rp.mono g2.s).mono g3.s,e3,q3⟩
theorem tq{a:Expr}{g:ME}{j pos pos'}(h:PD X Γ W a g):sA X Γ W (.Compare a [.IsNot] [.Constant .none j pos'] pos) (jw kK g):=PT.imp (qW (DH h)) λ_ _ σ H Q _ t=>by
 have t':=sT t;obtain⟨B0,B1,Hs,ρ,r,re,e,q⟩:=t';refine(bK re e q).mono λv H1 ⟨Hs1,d,g1,re1,rp,e1,q1⟩=>?_;cases d with
 |non=>cases e1;rw[bc.mp rp];exact q1 _ Hs1 H1 (.refl re1.b.i) (bH.of (az.mpr rfl))
 |bl _=>cases e1;rw[az.mp rp];exact q1 _ Hs1 H1 (.refl re1.b.i) (bH.of (az.mpr rfl))
 |int _=>cases e1;rw[ai.mp rp];exact q1 _ Hs1 H1 (.refl re1.b.i) (bH.of (az.mpr rfl))
 |str _=>cases e1;rw[aK.mp rp];exact q1 _ Hs1 H1 (.refl re1.b.i) (bH.of (az.mpr rfl))
 |tup _=>cases e1;obtain⟨a,_,rfl,_⟩:=aF.mp rp;exact q1 _ Hs1 H1 (.refl re1.b.i) (bH.of (az.mpr rfl))
 |lst _=>cases e1;obtain⟨a,_,rfl,_⟩:=aT.mp rp;exact q1 _ Hs1 H1 (.refl re1.b.i) (bH.of (az.mpr rfl))
 |fn _ _=>cases e1;obtain⟨a,_,rfl,_⟩:=kY.mp rp;exact q1 _ Hs1 H1 (.refl re1.b.i) (bH.of (az.mpr rfl))
 |obj _ _ _=>cases e1;obtain⟨a,_,_,rfl,_⟩:=hV.mp rp;exact q1 _ Hs1 H1 (.refl re1.b.i) (bH.of (az.mpr rfl))
end
theorem uK{Γ:Ct}{H:Hp}{f:Str}:∀{ns:List Str}{ds:List D}{xs:List V}{d:D},RepL Γ H ds xs->wQ f ns ds=some d->∃v,(ns.zip xs).lookup f=some v/\Rep Γ H d v
 |[],ds,xs,d,_,e=>by cases ds <;> cases e
 |n::ns,[],xs,d,_,e=>by cases e
 |n::ns,d0::ds,xs,d,r,e=>by
  obtain⟨x,r',rfl,q,t⟩:=aJ.mp r;unfold wQ at e;rw[zip_cons_cons,lookup_cons];cases h:(f == n) with
  |true=>rw[h] at e;rw[if_pos rfl] at e;cases e;exact⟨x,rfl,q⟩
  |false=>rw[h] at e;rw[if_neg Bool.false_ne_true] at e;exact uK t e
theorem eZ{m:Str}:∀{ns:List Str}{xs:List V},ns.contains m=false->(ns.zip xs).lookup m=none
 |[],xs,_=>by cases xs <;> rfl
 |n::ns,[],_=>rfl
 |n::ns,x::xs,h=>by
  rw[List.contains_cons,Bool.or_eq_false_iff] at h;rw[zip_cons_cons,lookup_cons,h.1];exact eZ h.2
section
variable{X:Cx}{Γ:Ct}{W:XW}{e o:Expr}{es:List Expr}{g go:ME}{gs:List ME}{f m x:Str}{p pos apos:Pos}
theorem Ge{cs:List String}(hK:X.K=Γ.K)(hC:∀c∈cs,vj Γ.K (Γ.cls c)/\fQ Γ.K (Γ.cls c) f)(he:PD X Γ W e g)(hb:attributeBase e f X.env (eval e X.env)=eval e X.env:=by rfl):PD X Γ W (.Attribute e f pos) (jw (Cn cs f) g):=
 PE.imp (G9 he hb) λ_ _ σ H Q _ ⟨B0,B1,Hs,ρ,r,re,e,q⟩=>by
  refine(bK (k:=Cn cs f) re e q).mono λv H1 ⟨Hs1,d,g1,re1,rp,e1,q1⟩=>?_;cases d with
  |obj c ns ds=>
   unfold Cn at e1;by_cases hc:cs.contains c=true
   ·simp only[if_pos hc] at e1;cases hf:wQ f ns ds with
    |none=>rw[hf] at e1;cases e1
    |some d'=>
     rw[hf] at e1;cases e1;obtain⟨a,dx,xs,rfl,ea,rl⟩:=hV.mp rp;obtain⟨v',hl,rv⟩:=uK rl hf;obtain⟨c1,c2⟩:=hC c (by simpa using hc)
     exact⟨a,_,dx,_,v',rfl,re1.b.i _ _ ea,hK▸c1,hK▸c2,hl,q1 v' Hs1 H1 (.refl re1.b.i) (bH.of rv)⟩
   ·simp only[if_neg hc] at e1;cases e1
  |_=>cases e1
end
def ox(P:Program)(w:World)(K:Frag)(mg:Str->Option Value)(base:Heap)(Γ:Ct)(k:Nat)(m:Str)(ps:List Str)(F:List D->Option R)(cs:List String):Prop:=
 ∃f fd,bV P w K mg base jg k f fd ps (A0 Γ W0 F)/\bO K fd ps []/\∀c∈cs,vj K (Γ.cls c)/\Hw K (Γ.cls c) m f
def vc(X:Cx)(Γ:Ct)(m:Str)(tb:String->Option (List D->Option R)):Prop:=
 ∀c F,tb c=some F->∃k ps cs,c∈cs/\ox X.prog X.w X.K X.mg X.base Γ k m ps F cs/\ba k X.A
def Ab:String->Option (List D->Option R):=λ_=>none
def Jw(cs:List String)(F:List D->Option R)(t:String->Option (List D->Option R)):String->Option (List D->Option R):=λc=>if cs.contains c=true then some F else t c
section
variable{X:Cx}{Γ:Ct}{e o:Expr}{es:List Expr}{g go:ME}{gs:List ME}{f m x:Str}{p pos apos:Pos}{tb:String->Option (List D->Option R)}
theorem xq:vc X Γ m Ab:=λ_ _ h=>nomatch h
theorem sL{k:Nat}{ps:List Str}{F:List D->Option R}{cs:List String}(h:ox X.prog X.w X.K X.mg X.base Γ k m ps F cs)(r:ba k X.A)(t:vc X Γ m tb):vc X Γ m (Jw cs F tb):=λc G e=>by
 unfold Jw at e;by_cases hc:cs.contains c=true
 ·rw[if_pos hc] at e;cases e;exact⟨k,ps,cs,by simpa using hc,h,r⟩
 ·rw[if_neg hc] at e;exact t c G e
theorem nO{d:D}{ρ:av}{r:R} (h:(match d with
 |.obj c ns ds=>if ns.contains m=true then none else(match tb c with
  |some F=>bU gs ρ λvs=>F (.obj c ns ds::vs)
  |none=>none)
 |_=>none)=some r):∃c ns ds F,d=.obj c ns ds/\ns.contains m=false/\tb c=some F/\bU gs ρ (λvs=>F (.obj c ns ds::vs))=some r:=by
 cases d with
 |obj c ns ds=>
  dsimp only at h;cases hn:ns.contains m with
  |true=>rw[hn,if_pos rfl] at h;cases h
  |false=>
   rw[hn,if_neg Bool.false_ne_true] at h;cases ht:tb c with
   |none=>rw[ht] at h;cases h
   |some F=>rw[ht] at h;exact⟨c,ns,ds,F,rfl,hn,ht,h⟩
 |_=>cases h
theorem DD{pl:Sem Bool}(T:vc X Γ m tb)(he:PD X Γ W0 o go)(ha:kh X Γ W0 (e::es) gs)
  (hst:starEach (e::es) X.env=(false,eval e X.env)::starEach es X.env:=by rfl) (hpl:(backTo pos (starEach es X.env)).any (·.1)=false:=by rfl)
  (ht:eval (.Call (.Attribute o m apos) (e::es) [] pos) X.env=(do
   let ov ←eval o X.env
   standAt apos.atName
   let (f,first) ←holding [ov] (getMethod ov m pl)
   callWith pos f first (backTo pos (starEach (e::es) X.env)) (backToKw pos (keywordEach [] X.env))):=by rfl):
  PD X Γ W0 (.Call (.Attribute o m apos) (e::es) [] pos) (jK m tb go gs):=by
 intro pins s σ H Q I ⟨B0,B1,Hs,ρ,r,re,e0,q⟩;refine methodCall_KW (pl:=pl) (bW (he pins s σ H _ I (bK re e0 q)) λu s1 ⟨x,H1,I1,rx,Hs1,d,g1,re1,rp,e1,q1⟩=>?_) ht;obtain⟨c,ns,ds,F,rfl,hn,htb,e2⟩:=nO e1;obtain⟨a,dx,xs,rfl,ea,rl⟩:=hV.mp rp;obtain rfl:u=Value.ref a:=rx;obtain⟨k,ps,cs,hc,⟨f,fd,G,hb,hcs⟩,hr⟩:=T c F htb;obtain⟨c1,c2⟩:=hcs c hc;refine nK I1 (re1.b.i _ _ ea) c1 c2 (eZ hn) ?_;refine PySem.W.callWith_K (first:=[.ref a]) (h₀:=X.base) I.ok.mod.kin c2.kp (bW (ha pos pins s1 σ H1 _ I1 (jA gs re1 e2 q1)) λus s2 ⟨vs,H2,I2,rr,Hs2,ds2,g2,re2,rps,e3,q2⟩=>⟨I2.kIn,?_⟩) hst hpl
 exact qQ (E:=E0) (dvs:=[]) (us:=.ref a::us) (vs:=.ref a::vs) G hr hb .nil tN I2 (.cons rfl rr) ⟨Hs2,.obj c ns ds::ds2,r,re2.b.i,by rw[append_nil];exact .cons (rp.mono g2.s) rps,e3,q2,re2.tb⟩
theorem AO{pl:Sem Bool}(T:vc X Γ m tb)(he:PD X Γ W0 o go)
  (ht:eval (.Call (.Attribute o m apos) [] [] pos) X.env=(do
   let ov ←eval o X.env
   standAt apos.atName
   let (f,first) ←holding [ov] (getMethod ov m pl)
   callWith pos f first (backTo pos (starEach [] X.env)) (backToKw pos (keywordEach [] X.env))):=by rfl):
  PD X Γ W0 (.Call (.Attribute o m apos) [] [] pos) (jK m tb go []):=by
 intro pins s σ H Q I ⟨B0,B1,Hs,ρ,r,re,e0,q⟩;refine methodCall_KW (pl:=pl) (bW (he pins s σ H _ I (bK re e0 q)) λu s1 ⟨x,H1,I1,rx,Hs1,d,g1,re1,rp,e1,q1⟩=>?_) ht;obtain⟨c,ns,ds,F,rfl,hn,htb,e2⟩:=nO e1;obtain⟨a,dx,xs,rfl,ea,rl⟩:=hV.mp rp;obtain rfl:u=Value.ref a:=rx;obtain⟨k,ps,cs,hc,⟨f,fd,G,hb,hcs⟩,hr⟩:=T c F htb;obtain⟨c1,c2⟩:=hcs c hc;refine nK I1 (re1.b.i _ _ ea) c1 c2 (eZ hn) ?_;exact PySem.W.callWith_K0 (first:=[.ref a]) I1.kIn c2.kp (qQ (E:=E0) (dvs:=[]) (us:=[.ref a]) (vs:=[.ref a]) G hr hb .nil tN I1 (.cons rfl .nil) ⟨Hs1,[.obj c ns ds],r,re1.b.i,.cons rp .nil,e2,q1,re1.tb⟩)
end
structure fR(a:Addr)(Hs H Hs' H':Hp):Prop where
 s:aB Hs Hs'
 h:∀b o,b≠a->H b=some o->H' b=some o
 i:aB Hs' H'
 n:∀b o,Hs' b=some o->Hs b=some o\/H b=none
theorem aW.x{a:Addr}{Hs H Hs' H':Hp}(g:aW Hs H Hs' H'):fR a Hs H Hs' H':=⟨g.s,λb o _ e=>g.h b o e,g.i,g.n⟩
theorem fR.trans{a:Addr}{Hs H Hs1 H1 Hs2 H2:Hp}(x:fR a Hs H Hs1 H1)(y:fR a Hs1 H1 Hs2 H2)(ha:Hs1 a=none)(hb:∃o,H1 a=some o):fR a Hs H Hs2 H2:=
 ⟨x.s.trans y.s,λb o hb e=>y.h b o hb (x.h b o hb e),y.i,λb o e=>by
  rcases y.n b o e with z|z
  ·exact x.n b o z
  ·by_cases hba:b=a
   ·subst hba;obtain⟨o',ho'⟩:=hb;rw[ho'] at z;cases z
   ·right;cases q:H b with
    |none=>rfl
    |some u=>rw[x.h b u hba q] at z;cases z⟩
theorem fR.none{a:Addr}{Hs H Hs' H':Hp}(g:fR a Hs H Hs' H'){ho:HO}(h:Hs a=Option.none)(h':H a=some ho):Hs' a=Option.none:=by
 cases q:Hs' a with
 |none=>rfl
 |some u=>
  rcases g.n a u q with z|z
  ·rw[h] at z;cases z
  ·rw[h'] at z;cases z
inductive JX(Γ:Ct)(F:jQ)(vs:List V)(H:Hp)(Q:VK)(E:XK):Prop
 |mk (a:Addr) (xs:List V) (Hs:Hp) (o:O) (ho:HO) (ds:List D) (o':O) (ev:vs=.ref a::xs) (sm:aB Hs H) (hs:Hs a=none) (hh:H a=some ho) (ro:lL Γ Hs o ho) (rl:RepL Γ Hs ds xs) (e:F o ds=some o')
  (q:∀Hs' H' ho',fR a Hs H Hs' H'->H' a=some ho'->lL Γ Hs' o' ho'->Q .non H') (tb:aB Γ.tb Hs)
structure oy(P:Program)(w:World)(K:Frag)(mg:Str->Option Value)(base:Heap)(Γ:Ct)(k:Nat)(c:String)(x:Str)(ps:List Str)(F:jQ):Prop where
 ex:∃f fd,bV P w K mg base jg k f fd ps (JX Γ F)/\bO K fd ps []/\PySem.W.keepIn K (.ref f)=true/\Mk K (Γ.cls c) f/\findCls K (.ref (Γ.cls c)) (.type "type") "__init__" = some (.val (.ref f))
 at_:mg x=some (.ref (Γ.cls c))
 sp:PySem.W.specialIn K (.ref (Γ.cls c)) "__getattribute__" = some (some (.builtin "type.__getattribute__"))
 rd:readsIn K (Γ.cls c) (.type "type")=true
section
variable{X:Cx}{Γ:Ct}{e o:Expr}{es:List Expr}{g go:ME}{gs:List ME}{f m x:Str}{p pos apos:Pos}{k:Nat}{c:String}{ps:List Str}{F:jQ}
theorem wW{ds:List D}{r:R} (h:(match F (.obj c [] []) ds with
 |some o=>some (R.ok (.own o))
 |none=>none)=some r):∃o,F (.obj c [] []) ds=some o/\r=.ok (.own o):=by
 cases q:F (.obj c [] []) ds with
 |none=>rw[q] at h;cases h
 |some o=>rw[q] at h;cases h;exact⟨o,rfl,rfl⟩
theorem E6{Hs H:Hp}{ds:List D}{vs:List V}{r:R}{Q:VK}(sm:aB Hs H)(rl:RepL Γ Hs ds vs) (e:(match F (.obj c [] []) ds with
 |some o=>some (R.ok (.own o))
 |none=>none)=some r) (q:RQ Γ W0 Hs H r Q) (tb:aB Γ.tb Hs):∀x dx,H x=none->H dx=none->dx≠x->
  JX Γ F (.ref x::(vs++[])) (aS (aS H dx (.own x)) x (.ins (Γ.cls c) dx [])) (λv H2=>v=.non/\Q (.ref x) H2) E0:=by
 intro x dx hx hd ne;obtain⟨o,eo,rfl⟩:=wW e;have hxs:Hs x=none:=sm.free hx;have hds:Hs dx=none:=sm.free hd;refine⟨x,vs,Hs,.obj c [] [],_,ds,o,by rw[append_nil],λb u z=>?_,hxs,aq,⟨dx,[],rfl,.nil⟩,rl,eo,λHs' H' ho' gx e' ro=>⟨rfl,?_⟩,tb⟩
 ·rw[ak (aC z hxs),ak (aC z hds)];exact sm _ _ z
 ·have g:aW Hs H Hs' H':=⟨gx.s,λb u z=>gx.h b u (aC z hx) (by rw[ak (aC z hx),ak (aC z hd)];exact z),gx.i,λb u z=>by
   rcases gx.n b u z with y|y
   ·exact .inl y
   ·right;by_cases hb:b=x
    ·subst hb;exact hx
    ·rw[ak hb] at y;by_cases hb':b=dx
     ·subst hb';exact hd
     ·rw[ak hb'] at y;exact y⟩
  exact q (.ref x) Hs' H' g ⟨x,ho',rfl,hx,gx.none hxs aq,e',ro⟩
theorem DE(h:oy X.prog X.w X.K X.mg X.base Γ k c x ps F)(hr:ba (k+1) X.A)(hg:Gl X x)(ha:kh X Γ W0 (e::es) gs)(hdb:(x == ("__debug__":Str))=false:=by decide)(he:starEach (e::es) X.env=(false,eval e X.env)::starEach es X.env:=by rfl)
  (hpl:(backTo pos (starEach es X.env)).any (·.1)=false:=by rfl):PD X Γ W0 (.Call (.Name x p) (e::es) [] pos) (xV c F gs):=by
 obtain⟨f,fd,G,hb,_,M,_⟩:=h.ex;exact PE.imp (Dy (E:=E0) (dvs:=[]) (ds:=[]) M G hr hg h.at_ hb .nil tN ha hdb he hpl) λ_ _ σ H Q _ ⟨B0,B1,Hs,ρ,r,re,e,q⟩=>by
  exact bz gs (λvs H1 ⟨Hs1,ds,_,re1,rp,e1,q1⟩=>E6 re1.b.i rp e1 q1 re1.tb) (jA gs re e q)
end
inductive tX(Γ:Ct)(g:MG)(D:mq)(σ:L2.St)(H:Hp):Prop
 |mk (a:Addr) (B0 B1 Hs:Hp) (ρ:av) (o:O) (ho:HO) (o':O) (re:RE Γ B0 B1 Hs H σ ρ) (hb:B1 a=none) (no:∀(i:Nat)(u:O),ρ[i]?≠some (some (.own u))) (h0:σ[0]?=some (some (.ref a))) (hs:Hs a=none) (hh:H a=some ho) (ro:lL Γ Hs o ho) (e:g ρ o=some o')
  (q:∀Hs' H' ho',fR a Hs H Hs' H'->H' a=some ho'->lL Γ Hs' o' ho'->D.nx σ H')
abbrev Ks(X:Cx)(Γ:Ct)(st:Stmt)(g:MG):Prop:=PS X st (tX Γ g)
abbrev Cz(X:Cx)(Γ:Ct)(st:List Stmt)(g:MG):Prop:=ip X st (tX Γ g)
theorem RE.growX{Γ:Ct}{B0 B1 Hs H Hs' H':Hp}{σ:L2.St}{ρ:av}{a:Addr}(r:RE Γ B0 B1 Hs H σ ρ)(g:fR a Hs H Hs' H')(hb:B1 a=none)(no:∀(i:Nat)(u:O),ρ[i]?≠some (some (.own u)))(hs:Hs a=none):RE Γ B0 B1 Hs' H' σ ρ where
 tb:=r.tb.trans g.s
 b:=⟨r.b.s.trans g.s,λb o e=>g.h b o (aC e hb) (r.b.h b o e),g.i,λb o e=>by
  rcases g.n b o e with z|z
  ·exact r.b.n b o z
  ·exact .inr (r.b.h.free z)⟩
 sh:=λi d e=>let ⟨v,e1,q⟩:=r.sh i d e;⟨v,e1,q.mono g.s⟩
 own:=λi o e=>absurd e (no i o)
 apart:=r.apart
 len:=r.len
section
variable{X:Cx}{Γ:Ct}{st:Stmt}{rest:List Stmt}{g h:MG}{e o:Expr}{es:List Expr}{ge:ME}{gs:List ME}{f m x y:Str}{p px pos pos' apos cpos:Pos}{k:Nat}{c:String}{ps:List Str}{F:jQ}
theorem xC:Cz X Γ [] BL:=ip.imp mE λD σ H ⟨a,B0,B1,Hs,ρ,o,ho,o',re,hb,no,h0,hs,hh,ro,e,q⟩=>by
 cases e;exact q Hs H ho (aW.x (.refl re.b.i)) hh ro
theorem t9(h1:Ks X Γ st g)(h2:Cz X Γ rest h):Cz X Γ (st::rest) (pZ g h):=ip.imp (iJ h1 h2) λD σ H ⟨a,B0,B1,Hs,ρ,o,ho,o',re,hb,no,h0,hs,hh,ro,e,q⟩=>by
 unfold pZ at e;cases z:g ρ o with
 |none=>rw[z] at e;cases e
 |some o1=>
  rw[z] at e;refine⟨a,B0,B1,Hs,ρ,o,ho,o1,re,hb,no,h0,hs,hh,ro,z,λHs' H' ho' gx hh' ro'=>?_⟩;exact⟨a,B0,B1,Hs',ρ,o1,ho',o',re.growX gx hb no hs,hb,no,h0,gx.none hs hh,hh',ro',e,λHs2 H2 ho2 gx2 hh2 ro2=>q Hs2 H2 ho2 (gx.trans gx2 (gx.none hs hh) ⟨_,hh'⟩) hh2 ro2⟩
theorem tm{H:Hp}{y:V}{d:D}(q:Rep Γ H d y):∀{ns:List Str}{ds:List D}{xs:List V},ns.length=ds.length->RepL Γ H ds xs->∃xs',iI f y (ns.zip xs)=(putN f ns).zip xs'/\RepL Γ H (yN f d ns ds) xs'
 |[],ds,xs,hl,r=>by
  refine⟨[y],?_,.cons q .nil⟩;cases xs <;> rfl
 |n::ns,[],xs,hl,r=>by cases hl
 |n::ns,d0::ds,xs,hl,r=>by
  obtain⟨x,r',rfl,qx,t⟩:=aJ.mp r;unfold putN yN;rw[zip_cons_cons];by_cases hn:n=f
  ·rw[if_pos hn,if_pos hn];refine⟨y::r',?_,.cons q t⟩;show(if n=f then _ else _)=_;rw[if_pos hn];rfl
  ·rw[if_neg hn,if_neg hn];obtain⟨xs',e1,e2⟩:=tm q (Nat.succ.inj hl) t;refine⟨x::xs',?_,.cons qx e2⟩;show(if n=f then _ else _)=_;rw[if_neg hn,e1];rfl
theorem wG{cs:List String}{ρ:av}{o o':O}(h:pY cs f ge ρ o=some o'):∃s c ns ds,ge ρ=some (.ok s)/\o=.obj c ns ds/\c∈cs/\ns.length=ds.length/\ns.length<900/\o'=.obj c (putN f ns) (yN f s.val ns ds):=by
 unfold pY at h;split at h
 ·rename_i s c ns ds e1;obtain⟨⟨h1,h2,h3⟩,h4⟩:=bj h;exact⟨s,c,ns,ds,e1,rfl,by simpa using h1,h2,h3,h4.symm⟩
 ·cases h
theorem FW{cs:List String}(hK:X.K=Γ.K)(hC:∀c∈cs,vj Γ.K (Γ.cls c)/\fQ Γ.K (Γ.cls c) f)(hv:PE X (.Name x px) (jD 0))(he:PD X Γ W0 e ge)(hs:swapsWith e (some (.Attribute (.Name x px) f pos')) pos.line X.env=pure false:=by rfl):Ks X Γ (.Assign [.Attribute (.Name x px) f pos'] e pos) (pY cs f ge):=
 PS.imp (G0 hv he hs) λ_ _ σ H En _ ⟨a,B0,B1,Hs,ρ,o,ho,o',re,hb,no,h0,hs0,hh,ro,e,q⟩=>by
  obtain⟨s,c,ns,ds,e1,rfl,hc,hl,h9,rfl⟩:=wG e;refine⟨B0,B1,Hs,ρ,_,re,e1,λv Hs' H' g' rs=>?_⟩;obtain⟨Hs2,g2,_,rp⟩:=rs.share g';obtain⟨dx,xs,rfl,rl⟩:=ro;obtain⟨c1,c2⟩:=hC c hc;obtain⟨xs',e2,r2⟩:=tm (f:=f) rp hl (rl.mono g2.s);have hs2:Hs2 a=none:=g2.none hs0 hh;refine⟨.ref a,h0,a,_,dx,_,rfl,g2.h _ _ hh,hK▸c1,hK▸c2,?_,?_⟩
  ·rw[List.length_zip];exact Nat.lt_of_le_of_lt (Nat.min_le_left _ _) (lt_trans h9 (by decide))
  ·refine q Hs2 _ _ ⟨g2.s,λb u hb e=>?_,λb u e=>?_,g2.n⟩ aq ⟨dx,xs',by rw[e2],r2⟩
   ·rw[ak hb];exact g2.h _ _ e
   ·rw[ak (aC e hs2)];exact g2.i _ _ e
theorem fO:∀(gs:List ME){B0 B1 Hs H:Hp}{σ:L2.St}{ρ:av}{ds:List D},RE Γ B0 B1 Hs H σ ρ->aI gs ρ=some ds->lY Γ W0 gs σ H (λvs H1=>∃Hs1,aW Hs H Hs1 H1/\RepL Γ Hs1 ds vs)
 |[],B0,B1,Hs,H,σ,ρ,ds,re,e=>by
  cases e;exact⟨Hs,.refl re.b.i,.nil⟩
 |g::gs,B0,B1,Hs,H,σ,ρ,ds,re,e=>by
  unfold aI at e;split at e
  ·rename_i s hs;cases z:aI gs ρ with
   |none=>rw[z] at e;cases e
   |some ds'=>
    rw[z] at e;cases e;refine⟨B0,B1,Hs,ρ,_,re,hs,λv Hs' H' g' rs=>?_⟩;obtain⟨Hs2,g2,_,rp⟩:=rs.share g';refine bz gs (λvs H2 ⟨Hs3,g3,rl⟩=>?_) (fO gs (re.grow g2) z);exact⟨Hs3,g2.trans g3,.cons (rp.mono g3.s) rl⟩
  ·cases e
theorem DB{t:TA}{pl:Sem Bool}{fa:Addr}{fd:FuncData}{sp:Sp}{C:Addr}(G:bV X.prog X.w X.K X.mg X.base jg k fa fd ps sp)(hb:bO X.K fd ps [])(hk:PySem.W.keepIn X.K (.ref fa)=true)(hf:findCls X.K (.ref C) (.type "type") m=some (.val (.ref fa)))
  (hm:X.mg x=some (.ref C)) (hsp:PySem.W.specialIn X.K (.ref C) "__getattribute__" = some (some (.builtin "type.__getattribute__"))) (hrd:readsIn X.K C (.type "type")=true) (hr:ba k X.A) (hg:Gl X x) (ha:PA X (e::es) t)
  (hdb:(x == ("__debug__":Str))=false:=by decide) (hst:starEach (e::es) X.env=(false,eval e X.env)::starEach es X.env:=by rfl) (hpl:(backTo pos (starEach es X.env)).any (·.1)=false:=by rfl)
  (ht:eval (.Call (.Attribute (.Name x p) m apos) (e::es) [] pos) X.env=(do
   let ov ←eval (.Name x p) X.env
   standAt apos.atName
   let (f,first) ←holding [ov] (getMethod ov m pl)
   callWith pos f first (backTo pos (starEach (e::es) X.env)) (backToKw pos (keywordEach [] X.env))):=by rfl):
  PE X (.Call (.Attribute (.Name x p) m apos) (e::es) [] pos) (Fc sp [] E0 t):=by
 intro pins s σ H Q I h;refine methodCall_KW (pl:=pl) (i7 I hg hm ?_ hdb) ht;refine PySem.W.method_cls I.kIn hsp (PySem.W.cls_value I.kIn hrd hf (by rfl) ?_)
 have I1:=I.tok (s.toks+1);refine PySem.W.callWith_K (first:=[]) (h₀:=X.base) I.ok.mod.kin hk (bW (ha pos pins _ σ H _ I1 h) λus s2 ⟨vs,H2,I2,rr,q2⟩=>⟨I2.kIn,?_⟩) hst hpl
 exact qQ (E:=E0) (ds:=[]) (dvs:=[]) G hr hb .nil tN I2 rr q2
theorem Dj{pl:Sem Bool}(h:oy X.prog X.w X.K X.mg X.base Γ k c x ps F)(hr:ba k X.A)(hg:Gl X x)(hv:PE X (.Name y px) (jD 0))(ha:kh X Γ W0 es gs)
  (hsw:swapsWith (.Call (.Attribute (.Name x p) "__init__" apos) (.Name y px::es) [] cpos) none pos.line X.env=pure false:=by rfl)
  (hdb:(x == ("__debug__":Str))=false:=by decide) (hst:starEach (.Name y px::es) X.env=(false,eval (.Name y px) X.env)::starEach es X.env:=by rfl) (hpl:(backTo cpos (starEach es X.env)).any (·.1)=false:=by rfl)
  (ht:eval (.Call (.Attribute (.Name x p) "__init__" apos) (.Name y px::es) [] cpos) X.env=(do
   let ov ←eval (.Name x p) X.env
   standAt apos.atName
   let (f,first) ←holding [ov] (getMethod ov "__init__" pl)
   callWith cpos f first (backTo cpos (starEach (.Name y px::es) X.env)) (backToKw cpos (keywordEach [] X.env))):=by rfl):
  Ks X Γ (.Expr (.Call (.Attribute (.Name x p) "__init__" apos) (.Name y px::es) [] cpos) pos) (uB F gs):=by
 obtain⟨fa,fd,G,hb,hk,M,hf⟩:=h.ex;exact PS.imp (mF (DB (pl:=pl) G hb hk hf h.at_ h.sp h.rd hr hg (bF hv ha hst) hdb hst hpl ht) hsw) λ_ _ σ H En _ ⟨a,B0,B1,Hs,ρ,o,ho,o',re,hb,no,h0,hs0,hh,ro,e,q⟩=>by
  unfold uB at e;cases z:aI gs ρ with
  |none=>rw[z] at e;cases e
  |some ds=>
   rw[z] at e;refine⟨.ref a,h0,bz gs (λvs H1 ⟨Hs1,g1,rl⟩=>?_) (fO gs re z)⟩;refine⟨a,vs,Hs1,o,ho,ds,o',by rw[append_nil],g1.i,g1.none hs0 hh,g1.h _ _ hh,ro.mono g1.s,rl,e,λHs' H' ho' gx hh' ro'=>?_,re.tb.trans g1.s⟩
   exact q Hs' H' ho' (fR.trans (aW.x g1) gx (g1.none hs0 hh) ⟨_,g1.h _ _ hh⟩) hh' ro'
end
theorem yM{Γ:Ct}{Hs H:Hp}(sm:aB Hs H){N:List Str}{ds:List D}{vs:List V}{v0:V}(hN:0<N.length)(rl:RepL Γ Hs ds vs)(tb:aB Γ.tb Hs):RE Γ Hs Hs Hs H (L2.start N (v0::vs)) (none::aN (N.length - 1) ds):=by
 have q:=gF (Γ:=Γ) sm (N:=N.tail) rl tb;have e1:L2.start N (v0::vs)=some v0::L2.start N.tail vs:=by
  unfold L2.start;rw[map_cons,length_cons,List.length_tail,cons_append];congr 3;omega
 have e2:N.tail.length=N.length - 1:=List.length_tail;rw[e2] at q;rw[e1];refine⟨⟨.refl _,sm,sm,λ_ _ z=>.inl z⟩,λi d e=>?_,λi o e=>?_,λi j o u a ij e f=>?_,by rw[length_cons,length_cons,q.len],tb⟩
 ·cases i with
  |zero=>cases e
  |succ i=>exact q.sh i d e
 ·cases i with
  |zero=>cases e
  |succ i=>
   obtain⟨a,ho,f1,f2,f3,f4,f5⟩:=q.own i o e;exact⟨a,ho,f1,sm.free f2,f3,f4,f5⟩
 ·cases i with
  |zero=>cases e
  |succ i=>
   cases j with
   |zero=>cases f
   |succ j=>exact q.apart i j o u a (λz=>ij (by rw[z])) e f
theorem yE(n:Nat)(ds:List D)(i:Nat)(u:O):(none::aN n ds)[i]?≠some (some (.own u)):=by
 cases i with
 |zero=>intro e;cases e
 |succ i=>
  intro e;have e:(aN n ds)[i]?=some (some (.own u)):=e;unfold aN at e;by_cases hi:i<ds.length
  ·rw[getElem?_append_left (by simpa using hi),getElem?_map,getElem?_eq_getElem hi] at e
   cases e
  ·rw[getElem?_append_right (by simpa using hi),getElem?_replicate] at e
   split at e <;> cases e
theorem Kl{P:Program}{w:World}{K:Frag}{mg:Str->Option Value}{base:Heap}{Γ:Ct}{x qual:Str}{st:Stmt}{f:Addr}{fd:FuncData}{N ps:List Str}{k:Nat}{g:MG}(F:sC K x qual st f fd)(S:ax N ps (a9 st))(hN:0<N.length)
  (body:∀(cdv:Value)(A:Around)(outer:List PySem.Env)(s:Shared)(H:Hp)(E:XK),ba k (A.deeper (envOfC qual (a9 st) s.heap.objs.size f cdv))->Cz (iB jg P w K mg base N qual (a9 st) f cdv A outer s H E).nox Γ (ao st) g):
  bV P w K mg base jg (k+1) f fd ps (JX Γ (Fw ps.length N.length g)):=by
 refine F.ok S (λvs H Q E ⟨a,xs,Hs,o,ho,ds,o',ev,sm,hs,hh,ro,rl,e,q,tb⟩=>?_) (λcdv A outer s H vs Q E hr ⟨a,xs,Hs,o,ho,ds,o',ev,sm,hs,hh,ro,rl,e,q,tb⟩=>?_)
 ·subst ev;unfold Fw at e;obtain⟨h1,_⟩:ds.length+1=ps.length/\True:=by
   by_cases z:ds.length+1=ps.length
   ·exact⟨z,trivial⟩
   ·rw[if_neg z] at e;cases e
  rw[length_cons,←rl.length,h1]
 ·subst ev;unfold Fw at e;by_cases z:ds.length+1=ps.length
  ·rw[if_pos z] at e;refine⟨tX Γ g,body cdv A outer s H E hr,a,Hs,Hs,Hs,_,o,ho,o',yM sm hN rl tb,hs,yE _ _,?_,hs,hh,ro,e,q⟩;rfl
  ·rw[if_neg z] at e;cases e
structure qz(K:Frag)(cls:String->Addr)(m qual:Str)(st:Stmt)(ps:List Str)(cs:List String):Prop where
 ex:∃f fd,sC K m qual st f fd/\bO K fd ps []/\∀c∈cs,vj K (cls c)/\Hw K (cls c) m f
structure qA(K:Frag)(mg:Str->Option Value)(cls:String->Addr)(c:String)(x qual:Str)(st:Stmt)(ps:List Str):Prop where
 ex:∃f fd,sC K "__init__" qual st f fd/\bO K fd ps []/\Mk K (cls c) f/\findCls K (.ref (cls c)) (.type "type") "__init__" = some (.val (.ref f))
 at_:mg x=some (.ref (cls c))
 sp:PySem.W.specialIn K (.ref (cls c)) "__getattribute__" = some (some (.builtin "type.__getattribute__"))
 rd:readsIn K (cls c) (.type "type")=true
section
variable{P:Program}{w:World}{K:Frag}{mg:Str->Option Value}{base:Heap}{Γ:Ct}
theorem pT{x qual:Str}{st:Stmt}{N ps:List Str}{k:Nat}{g:MC}{cs:List String}(L:qz K Γ.cls x qual st ps cs)(S:ax N ps (a9 st))
  (body:∀(f:Addr)(cdv:Value)(A:Around)(outer:List PySem.Env)(s:Shared)(H:Hp)(E:XK),ba k (A.deeper (envOfC qual (a9 st) s.heap.objs.size f cdv))->iC (iB jg P w K mg base N qual (a9 st) f cdv A outer s H E).nox Γ W0 (ao st) g):
  ox P w K mg base Γ (k+1) x ps (gv ps.length N.length g) cs:=by
 obtain⟨f,fd,F,hb,hc⟩:=L.ex;exact⟨f,fd,GR F S (body f),hb,hc⟩
theorem pX{x qual:Str}{c:String}{st:Stmt}{N ps:List Str}{k:Nat}{g:MG}(L:qA K mg Γ.cls c x qual st ps)(S:ax N ps (a9 st))(hN:0<N.length)
  (body:∀(f:Addr)(cdv:Value)(A:Around)(outer:List PySem.Env)(s:Shared)(H:Hp)(E:XK),ba k (A.deeper (envOfC qual (a9 st) s.heap.objs.size f cdv))->Cz (iB jg P w K mg base N qual (a9 st) f cdv A outer s H E).nox Γ (ao st) g):
  oy P w K mg base Γ (k+1) c x ps (Fw ps.length N.length g):=by
 obtain⟨f,fd,F,hb,hm,hf⟩:=L.ex;exact⟨⟨f,fd,Kl F S hN (body f),hb,F.kp,hm,hf⟩,L.at_,L.sp,L.rd⟩
theorem uy{cls:String->Addr}{x qual:Str}{st:Stmt}{ps:List Str}{f:Addr}{oc:Value}{od an:Option Addr}{osl:Array (Option Value)}{kV doc pm cdv ct:Value}{cs:List String}
  (l:K.lookup f=some ⟨oc,od,.func (fnOf x qual (aw st) (ao st) (a9 st) .none kV doc pm an cdv ct),osl⟩) (c:codeIn K cdv qual=true) (k:PySem.W.keepIn K (.ref f)=true) (i:isFn K (.ref f)=true)
  (hb:∀(kV doc pm:Value)(an:Option Addr)(cdv ct:Value)(us:List Value),us.length=ps.length->bindArgs (fnOf x qual (aw st) (ao st) (a9 st) .none kV doc pm an cdv ct) ⟨us,[]⟩=pure (ps.zip us))
  (hc:∀c∈cs,vj K (cls c)/\PySem.W.findIn K (.ref (cls c)) x=some (some (.ref f))):qz K cls x qual st ps cs:=
 ⟨f,_,gu l c k,(gu l c k).binds hb,λc h=>⟨(hc c h).1,(hc c h).2,i,k⟩⟩
theorem uz{h:Heap}(X:K.In h)(G:h.Ns mainGlobals mg){cls:String->Addr}{cn:String}{C:Addr}(ec:cls cn=C){x qual:Str}{st:Stmt}{ps:List Str}{f:Addr}{oc:Value}{od an:Option Addr}{osl:Array (Option Value)}{kV doc pm cdv ct:Value}
  (a:PySem.W.nsIn K mainGlobals x=some (some (.ref C))) (fi:PySem.W.findIn K (.ref C) "__init__" = some (some (.ref f)))
  (l:K.lookup f=some ⟨oc,od,.func (fnOf "__init__" qual (aw st) (ao st) (a9 st) .none kV doc pm an cdv ct),osl⟩) (c:codeIn K cdv qual=true) (k:PySem.W.keepIn K (.ref f)=true) (i:isFn K (.ref f)=true)
  (mk:makesIn K C=true) (kc:PySem.W.keepIn K (.ref C)=true) (fc:findCls K (.ref C) (.type "type") "__init__" = some (.val (.ref f)))
  (sp:PySem.W.specialIn K (.ref C) "__getattribute__" = some (some (.builtin "type.__getattribute__"))) (rd:readsIn K C (.type "type")=true)
  (hb:∀(kV doc pm:Value)(an:Option Addr)(cdv ct:Value)(us:List Value),us.length=ps.length->bindArgs (fnOf "__init__" qual (aw st) (ao st) (a9 st) .none kV doc pm an cdv ct) ⟨us,[]⟩=pure (ps.zip us)):qA K mg cls cn x qual st ps:=by
 subst ec;exact⟨⟨f,_,gu l c k,(gu l c k).binds hb,⟨mk,fi,i,kc⟩,fc⟩,mg_of X G a,sp,rd⟩
end
theorem all_nil{α:Type}{p:α->Prop}:∀c∈([]:List α),p c:=λ_ h=>nomatch h
theorem all_cons{α:Type}{p:α->Prop}{a:α}{l:List α}(h:p a)(t:∀c∈l,p c):∀c∈a::l,p c:=λc hc=>by
 rcases mem_cons.mp hc with rfl|h'
 ·exact h
 ·exact t c h'
def ph:List (String×Addr)->String->Addr
 |[],_=>0
 | (c,a)::r,s=>if s=c then a else ph r s
theorem sj{c:String}{a:Addr}{r:List (String×Addr)}:ph ((c,a)::r) c=a:=by unfold ph;rw[if_pos rfl]
theorem si{c s:String}{a b:Addr}{r:List (String×Addr)}(h:s≠c)(t:ph r s=b):ph ((c,a)::r) s=b:=by unfold ph;rw[if_neg h];exact t
section
variable{X:Cx}{Γ:Ct}{W:XW}
theorem pP(hK:X.K=Γ.K)(hu:X.A.units<cLine):ft X (compareOp .NotEq) (rD Γ W wZ):=λpins s σ H x y v u Q I rx ry ⟨Hs,d1,d2,r,sm,r1,r2,e,q⟩=>by
 cases d1 with
 |lst ds=>
  cases d2 with
  |lst es=>
   cases es with
   |cons _ _=>cases e
   |nil=>
    cases e;obtain⟨a,xs,rfl,qa,la⟩:=aT.mp r1;obtain⟨b,ys,rfl,qb,lb⟩:=aT.mp r2;cases rx;cases ry;obtain rfl:=bQ.mp lb;obtain⟨its,ra,pa,za⟩:=I.list (by rw[hK];exact aB.seq sm qa)
    obtain⟨its2,rb,pb,zb⟩:=I.list (by rw[hK];exact aB.seq sm qb)
    have l1:=ra.length;have l2:=rb.length;have l3:=la.length;have fin:∀c:Bool,(!ds.isEmpty)=c->EP X pins σ Q (.bool c) s:=λc hc=>by subst hc;exact⟨.bl _,H,I,rfl,d6 sm q (az.mpr rfl)⟩
    cases ds with
    |nil=>
     have h0:its=[]:=by cases its with|nil=>rfl|cons _ _=>simp at l1 l3;omega
     have h2:its2=[]:=by cases its2 with|nil=>rfl|cons _ _=>simp at l2
     subst h0 h2;exact PySem.SeqAt.RcNeAt.lists (e:=λ_=>true) pa.isList pb.isList rfl hu (λj h1 _=>absurd h1 (by simp)) X.prog X.w X.xe _ (fin _ rfl)
    |cons d ds=>
     refine PySem.SeqAt.RcNeAt.lists_lengths pa.isList pb.isList ?_ hu X.prog X.w X.xe _ (fin _ rfl);rw[size_toArray,size_toArray,←l1,←l2,←l3];simp
  |non=>cases e
  |bl _=>cases e
  |int _=>cases e
  |str _=>cases e
  |tup _=>cases e
  |fn _ _=>cases e
  |obj _ _ _=>cases e
 |_=>cases e
end
theorem BM{A:Around}{k:Nat}(hr:ba k A):A.units<cLine:=Nat.lt_of_succ_lt (J2 hr)
section
variable{X:Cx}{Γ:Ct}{W:XW}{es:List Expr}{gs:List ME}{g:ME}{pos:Pos}
theorem cU{c j}(h:PD X Γ W (.Constant c j pos) g)(t:kh X Γ W es gs):kh X Γ W (.Constant c j pos::es) (g::gs):=cF h t rfl
theorem padN{x}(h:PD X Γ W (.Name x pos) g)(t:kh X Γ W es gs):kh X Γ W (.Name x pos::es) (g::gs):=cF h t rfl
theorem oV{a op b}(h:PD X Γ W (.BinOp a op b pos) g)(t:kh X Γ W es gs):kh X Γ W (.BinOp a op b pos::es) (g::gs):=cF h t rfl
theorem padS{a b}(h:PD X Γ W (.Subscript a b pos) g)(t:kh X Γ W es gs):kh X Γ W (.Subscript a b pos::es) (g::gs):=cF h t rfl
theorem rf{f as ks}(h:PD X Γ W (.Call f as ks pos) g)(t:kh X Γ W es gs):kh X Γ W (.Call f as ks pos::es) (g::gs):=cF h t rfl
theorem iz{xs c}(h:PD X Γ W (.Tuple xs c pos) g)(t:kh X Γ W es gs):kh X Γ W (.Tuple xs c pos::es) (g::gs):=cF h t rfl
theorem K7{op a}(h:PD X Γ W (.UnaryOp op a pos) g)(t:kh X Γ W es gs):kh X Γ W (.UnaryOp op a pos::es) (g::gs):=cF h t rfl
end
section
variable{X:Cx}{Γ:Ct}{W:XW}
theorem fG{i:Nat}{x:Str}{pos' pos:Pos}{e:Expr}{ge:ME}(hN:X.N.Nodup)(hi:X.N[i]?=some x)(he:PD X Γ W e ge)(hx:CB X.env.scope x:=by first|exact Or.inl rfl|exact Or.inr rfl)(hs:swapsWith e (some (.Name x pos')) pos.line X.env=pure false:=by rfl)
  (hf:X.fn x=true\/X.env.scope.names.lookup x=some .local:=by first|exact .inl rfl|exact .inr rfl|assumption):vd X Γ W (.Assign [.Name x pos'] e pos) (aX i ge):=Dm hN hi hx he hs hf
theorem DI{j:Nat}{x:Str}{pos:Pos}(hN:X.N.Nodup)(hi:X.N[j]?=some x)(hx:CB X.env.scope x:=by first|exact Or.inl rfl|exact Or.inr rfl)(hf:X.fn x=true\/X.env.scope.names.lookup x=some .local:=by first|exact .inl rfl|exact .inr rfl|assumption):Jp X Γ (.Name x pos) [j] (cy j):=AW hN hi hx hf
end
end L3
namespace L3
open PySem PySem.Spec PyProof.Rows L2 PySem.SeqAt
section
variable{X:Cx}{Γ:Ct}{W:XW}{pins:List (Addr×Obj)}{σ:L2.St}{H:Hp}{s:Shared}
theorem lE(n:Nat)(ih:∀(d1 d2:D)(b:Bool)(v:V),ml n d1 d2=some b->Rep Γ H d1 v->Rep Γ H d2 v->b=true):∀(xs ys:List D)(vs:List V)(b:Bool),iA (ml n) xs ys=some b->RepL Γ H xs vs->RepL Γ H ys vs->b=true
 |[],[],vs,b,h,_,_=>by cases h;rfl
 |[],y::ys,vs,b,h,r1,r2=>by
  obtain⟨z,r,e,_,_⟩:=aJ.mp r2;rw[bQ.mp r1] at e;cases e
 |x::xs,[],vs,b,h,r1,r2=>by
  obtain⟨z,r,e,_,_⟩:=aJ.mp r1;rw[bQ.mp r2] at e;cases e
 |x::xs,y::ys,vs,b,h,r1,r2=>by
  obtain⟨z,r,e,p1,t1⟩:=aJ.mp r1;obtain⟨z',r',e',p2,t2⟩:=aJ.mp r2;rw[e] at e';cases e';have h:(ml n x y).bind (λb=>(iA (ml n) xs ys).bind λc=>some (b && c))=some b:=h;cases h1:ml n x y with
  |none=>rw[h1] at h;cases h
  |some b1=>
   rw[h1] at h;cases h2:iA (ml n) xs ys with
   |none=>rw[h2] at h;cases h
   |some b2=>
    rw[h2] at h;cases h;rw[ih x y b1 z h1 p1 p2,lE n ih xs ys r b2 h2 t1 t2];rfl
theorem nM(hK:X.K=Γ.K)(I:ay X pins σ H s):∀(n:Nat)(d1 d2:D)(b:Bool)(v:V),ml n d1 d2=some b->Rep Γ H d1 v->Rep Γ H d2 v->b=true
 |0,_,_,_,_,h,_,_=>by cases h
 |n+1,d1,d2,b,v,h,r1,r2=>by
  have ih:=nM hK I n;cases d1 with
  |int i=>
   cases d2 with
   |int j=>
    cases h;have:=(ai.mp r1).symm.trans (ai.mp r2);cases this;exact beq_self_eq_true _
   |_=>cases h
  |str x=>
   cases d2 with
   |str y=>
    cases h;have:=(aK.mp r1).symm.trans (aK.mp r2);cases this;exact beq_self_eq_true _
   |_=>cases h
  |tup xs=>
   cases d2 with
   |tup ys=>
    obtain⟨a,vs,rfl,q1,l1⟩:=aF.mp r1;obtain⟨a',ws,e,q2,l2⟩:=aF.mp r2;cases e;have e:=I.seqX_inj (b:=false) (show xi X.K H false a vs by rw[hK];exact q1) (show xi X.K H false a ws by rw[hK];exact q2)
    subst e;exact lE n ih xs ys vs b h l1 l2
   |_=>cases h
  |lst xs=>
   cases d2 with
   |lst ys=>
    obtain⟨a,vs,rfl,q1,l1⟩:=aT.mp r1;obtain⟨a',ws,e,q2,l2⟩:=aT.mp r2;cases e;have e:=I.seqX_inj (b:=true) (show xi X.K H true a vs by rw[hK];exact q1) (show xi X.K H true a ws by rw[hK];exact q2)
    subst e;have h:(if xs.length=ys.length then iA (ml n) xs ys else some false)=some b:=h;rw[if_pos (l1.length.trans l2.length.symm)] at h;exact lE n ih xs ys vs b h l1 l2
   |_=>cases h
  |_=>cases d2 <;> cases h
theorem fK(n:Nat){A:Around}(ih:∀(d1 d2:D)(b:Bool)(x y:V)(v u:Value),ml n d1 d2=some b->Rep Γ H d1 x->Rep Γ H d2 y->RelV x v->RelV y u->EqAt A s v u b){xs ys:List D}{vs ws:List V}{its its2:List Value}{b:Bool}(h:iA (ml n) xs ys=some b)(l1:RepL Γ H xs vs)(l2:RepL Γ H ys ws)(r1:Vals vs its)(r2:Vals ws its2):
  ∀j (h1:j<its.toArray.size) (h2:j<its2.toArray.size),EqAt A s its.toArray[j] its2.toArray[j] (((xs[j]?).bind λx=>(ys[j]?).bind λy=>ml n x y) == some true):=by
 intro j h1 h2;have e1:=l1.length;have e2:=l2.length;have e3:=r1.length;have e4:=r2.length;rw[size_toArray] at h1 h2;have hx:xs[j]?=some xs[j]:=getElem?_eq_getElem (by omega)
 have hy:ys[j]?=some ys[j]:=getElem?_eq_getElem (by omega)
 obtain⟨c,hc⟩:=xT _ xs ys b h j _ _ hx hy;obtain⟨x,ex,rx⟩:=l1.get hx;obtain⟨y,ey,ry⟩:=l2.get hy;obtain⟨v,ev,rv⟩:=r1.get ex;obtain⟨u,eu,ru⟩:=r2.get ey;have ev':its[j]=v:=by rw[getElem?_eq_getElem h1] at ev;exact Option.some.inj ev
 have eu':its2[j]=u:=by rw[getElem?_eq_getElem h2] at eu;exact Option.some.inj eu
 rw[hx,hy];show EqAt A s its[j] its2[j] (ml n xs[j] ys[j] == some true);rw[hc,ev',eu',show(some c == some true)=c by cases c <;> rfl]
 exact ih _ _ c x y v u hc rx ry rv ru
theorem nN(hK:X.K=Γ.K)(I:ay X pins σ H s):∀(n:Nat)(A:Around),A.units+n<cLine->∀(d1 d2:D)(b:Bool)(x y:V)(v u:Value),ml n d1 d2=some b->Rep Γ H d1 x->Rep Γ H d2 y->RelV x v->RelV y u->EqAt A s v u b
 |0,_,_,_,_,_,_,_,_,_,h,_,_,_,_=>by cases h
 |n+1,A,hu,d1,d2,b,x,y,v,u,h,r1,r2,rx,ry=>by
  have ih:=nN hK I n A.in1 (by show A.units+1+n<cLine;omega)
  cases d1 with
  |int i=>
   cases d2 with
   |int j=>
    cases h;rw[ai.mp r1] at rx;rw[ai.mp r2] at ry;obtain⟨t,rfl⟩:=rx;obtain⟨t',rfl⟩:=ry;exact EqAt.int_int i t j t'
   |_=>cases h
  |str z=>
   cases d2 with
   |str z'=>
    cases h;rw[aK.mp r1] at rx;rw[aK.mp r2] at ry;obtain⟨t,rfl⟩:=rx;obtain⟨t',rfl⟩:=ry;exact EqAt.str_str z t z' t'
   |_=>cases h
  |tup xs=>
   cases d2 with
   |tup ys=>
    obtain⟨a,vs,rfl,q1,l1⟩:=aF.mp r1;obtain⟨a',ws,rfl,q2,l2⟩:=aF.mp r2;cases rx;cases ry;by_cases c:a=a'
    ·subst c;rw[nM hK I (n+1) (.tup xs) (.tup ys) b (.ref a) h r1 r2];exact EqAt.same _
    ·obtain⟨its,v1,p1,_⟩:=I.tuple (by rw[hK];exact q1)
     obtain⟨its2,v2,p2,_⟩:=I.tuple (by rw[hK];exact q2)
     have e:=RcAt.tuples p1 p2 (A:=A) (by omega) (fK n ih h l1 l2 v1 v2)
     rw[size_toArray,size_toArray,←v1.length,←v2.length,←l1.length,←l2.length,←gO _ xs ys b h] at e;exact EqAt.of_refs c e
   |_=>cases h
  |lst xs=>
   cases d2 with
   |lst ys=>
    obtain⟨a,vs,rfl,q1,l1⟩:=aT.mp r1;obtain⟨a',ws,rfl,q2,l2⟩:=aT.mp r2;cases rx;cases ry;by_cases c:a=a'
    ·subst c;rw[nM hK I (n+1) (.lst xs) (.lst ys) b (.ref a) h r1 r2];exact EqAt.same _
    ·obtain⟨its,v1,p1,_⟩:=I.list (by rw[hK];exact q1)
     obtain⟨its2,v2,p2,_⟩:=I.list (by rw[hK];exact q2)
     have h:(if xs.length=ys.length then iA (ml n) xs ys else some false)=some b:=h;have s1:its.toArray.size=xs.length:=by rw[size_toArray,←v1.length,←l1.length]
     have s2:its2.toArray.size=ys.length:=by rw[size_toArray,←v2.length,←l2.length]
     by_cases hl:xs.length=ys.length
     ·rw[if_pos hl] at h;have e:=RcAt.lists p1.isList p2.isList (A:=A) (by rw[s1,s2,hl]) (by omega) (fK n ih h l1 l2 v1 v2)
      have ea:=gO _ xs ys b h;rw[hl,Nat.min_self,beq_self_eq_true,Bool.and_true] at ea;rw[s1,hl,←ea] at e;exact EqAt.of_refs c e
     ·rw[if_neg hl] at h;cases h;exact EqAt.of_refs c (RcAt.lists_lengths p1.isList p2.isList (by rw[s1,s2];simpa using hl) (by omega))
   |_=>cases h
  |_=>cases d2 <;> cases h
end
section
variable{X:Cx}{Γ:Ct}{W:XW}{pins:List (Addr×Obj)}{σ:L2.St}{H:Hp}{s:Shared}
theorem As(hK:X.K=Γ.K)(I:ay X pins σ H s)(n:Nat)(A:Around)(hu:A.units+n<cLine)(d1 d2:D)(b:Bool)(x y:V)(v u:Value)(h:ml n d1 d2=some b)(r1:Rep Γ H d1 x)(r2:Rep Γ H d2 y)(rx:RelV x v)(ry:RelV y u):RcAt A s v u b:=by
 cases n with
 |zero=>cases h
 |succ n=>
  have ih:=nN hK I n A.in1 (by show A.units+1+n<cLine;omega)
  cases d1 with
  |int i=>
   cases d2 with
   |int j=>
    cases h;rw[ai.mp r1] at rx;rw[ai.mp r2] at ry;obtain⟨t,rfl⟩:=rx;obtain⟨t',rfl⟩:=ry;exact RcAt.int_int i t j t'
   |_=>cases h
  |str z=>
   cases d2 with
   |str z'=>
    cases h;rw[aK.mp r1] at rx;rw[aK.mp r2] at ry;obtain⟨t,rfl⟩:=rx;obtain⟨t',rfl⟩:=ry;exact RcAt.str_str z t z' t'
   |_=>cases h
  |tup xs=>
   cases d2 with
   |tup ys=>
    obtain⟨a,vs,rfl,q1,l1⟩:=aF.mp r1;obtain⟨a',ws,rfl,q2,l2⟩:=aF.mp r2;cases rx;cases ry;obtain⟨its,v1,p1,_⟩:=I.tuple (by rw[hK];exact q1)
    obtain⟨its2,v2,p2,_⟩:=I.tuple (by rw[hK];exact q2)
    have e:=RcAt.tuples p1 p2 (A:=A) (by omega) (fK n ih h l1 l2 v1 v2)
    rw[size_toArray,size_toArray,←v1.length,←v2.length,←l1.length,←l2.length,←gO _ xs ys b h] at e;exact e
   |_=>cases h
  |lst xs=>
   cases d2 with
   |lst ys=>
    obtain⟨a,vs,rfl,q1,l1⟩:=aT.mp r1;obtain⟨a',ws,rfl,q2,l2⟩:=aT.mp r2;cases rx;cases ry;obtain⟨its,v1,p1,_⟩:=I.list (by rw[hK];exact q1)
    obtain⟨its2,v2,p2,_⟩:=I.list (by rw[hK];exact q2)
    have h:(if xs.length=ys.length then iA (ml n) xs ys else some false)=some b:=h;have s1:its.toArray.size=xs.length:=by rw[size_toArray,←v1.length,←l1.length]
    have s2:its2.toArray.size=ys.length:=by rw[size_toArray,←v2.length,←l2.length]
    by_cases hl:xs.length=ys.length
    ·rw[if_pos hl] at h;have e:=RcAt.lists p1.isList p2.isList (A:=A) (by rw[s1,s2,hl]) (by omega) (fK n ih h l1 l2 v1 v2)
     have ea:=gO _ xs ys b h;rw[hl,Nat.min_self,beq_self_eq_true,Bool.and_true] at ea;rw[s1,hl,←ea] at e;exact e
    ·rw[if_neg hl] at h;cases h;exact RcAt.lists_lengths p1.isList p2.isList (by rw[s1,s2];simpa using hl) (by omega)
   |_=>cases h
  |non=>cases d2 <;> cases h
  |bl _=>cases d2 <;> cases h
  |fn _ _=>cases d2 <;> cases h
  |obj _ _ _=>cases d2 <;> cases h
end
section
variable{X:Cx}{Γ:Ct}{W:XW}
theorem rX{A:Around}{k n:Nat}(hr:ba k A)(hn:n<=9:=by decide):A.units+n<cLine:=by
 have:=hr.un;omega
theorem DN{n:Nat}(hK:X.K=Γ.K)(hu:X.A.units+n<cLine):ft X (compareOp .Eq) (rD Γ W (Jj n)):=λpins s σ H x y v u Q I rx ry ⟨Hs,d1,d2,r,sm,r1,r2,e,q⟩=>by
 have e:(ml n d1 d2).bind (λb=>okB b)=some r:=e;cases h:ml n d1 d2 with
 |none=>rw[h] at e;cases e
 |some b=>
  rw[h] at e;cases e;exact As hK I n X.A hu d1 d2 b x y v u h (r1.mono sm) (r2.mono sm) rx ry X.prog X.w X.xe _ ⟨.bl b,H,I,rfl,d6 sm q (az.mpr rfl)⟩
variable{i:Nat}{x:Str}{px apos cpos pos:Pos}
end
end L3
namespace L3
open PySem PySem.Spec PyProof.Rows L2
section
variable{X:Cx}{Γ:Ct}{W:XW}
theorem RepL.reverse{H:Hp}:∀{ds:List D}{xs:List V},RepL Γ H ds xs->RepL Γ H ds.reverse xs.reverse
 |[],xs,h=>by rw[bQ.mp h];exact .nil
 |d::ds,xs,h=>by
  obtain⟨x,r,rfl,q,t⟩:=aJ.mp h;rw[reverse_cons,reverse_cons];exact(RepL.reverse t).append (.cons q .nil)
variable{i:Nat}{x:Str}{px apos cpos pos pos' zpos:Pos}{k:Expr}{gk:ME}
end
end L3
namespace L3
open PySem PySem.Spec PyProof.Rows L2 PySem.W
def HD(L:dQ)(H:Hp)(a:Addr)(xs:List V):Prop:=
 ∃(cs:List Addr)(pm:Value)(c:Addr)(ctv:Value),H a=some (.frz (L.obj (L.fv.zip cs) pm c ctv) (.fnc c L.qual))/\cg H cs xs/\cs.Nodup/\cs.length=L.fv.length
theorem HD.mono{L:dQ}{H H':Hp}{a:Addr}{xs:List V}(s:aB H H')(h:HD L H a xs):HD L H' a xs:=by
 obtain⟨cs,pm,c,ctv,e,r,q⟩:=h;exact⟨cs,pm,c,ctv,s _ _ e,r.mono s,q⟩
def HH(K:Frag)(cls:String->Addr)(lams:Nat->Option dQ)(P:Addr)(good:Pos->Option Str):Ct:=
 ⟨K,cls,λk H a xs=>(k=DK/\xs=[])\/∃L,lams k=some L/\HD L H a xs,λs h=>h.imp id λ⟨L,e,h⟩=>⟨L,e,h.mono s⟩,λb=>if b=P then some (.tab good) else none,λ_ _=>.inl ⟨rfl,rfl⟩⟩
mutual
theorem Rep.to{Γ:Ct}{H H':Hp}(k:∀b u,H b=some u->(∀o c,u≠.frz o (.own c))->H' b=some u):∀{d:D}{v:V},noFn d=true->Rep Γ H d v->Rep Γ H' d v
 |.non,_,_,r=>by unfold Rep at r ⊢;exact r
 |.bl _,_,_,r=>by unfold Rep at r ⊢;exact r
 |.int _,_,_,r=>by unfold Rep at r ⊢;exact r
 |.str _,_,_,r=>by unfold Rep at r ⊢;exact r
 |.tup ds,_,n,r=>by
  unfold Rep at r ⊢;obtain⟨a,xs,e1,q,r⟩:=r;refine⟨a,xs,e1,?_,RepL.to k (by unfold noFn at n;exact n) r⟩
  rcases q with(q|⟨o,q⟩)|q
  ·exact .inl (.inl (k _ _ q λ_ _ z=>nomatch z))
  ·exact .inl (.inr ⟨o,k _ _ q λ_ _ z=>by cases z⟩)
  ·exact .inr q
 |.lst ds,_,n,r=>by
  unfold Rep at r ⊢;obtain⟨a,xs,e1,q,r⟩:=r;refine⟨a,xs,e1,?_,RepL.to k (by unfold noFn at n;exact n) r⟩
  rcases q with(q|⟨o,q⟩)|q
  ·exact .inl (.inl (k _ _ q λ_ _ z=>nomatch z))
  ·exact .inl (.inr ⟨o,k _ _ q λ_ _ z=>by cases z⟩)
  ·exact .inr q
 |.obj c ns ds,_,n,r=>by
  unfold Rep at r ⊢;obtain⟨a,dx,xs,e1,q,r⟩:=r;exact⟨a,dx,xs,e1,k _ _ q (λ_ _ z=>nomatch z),RepL.to k (by unfold noFn at n;exact n) r⟩
 |.fn _ _,_,n,_=>by unfold noFn at n;cases n
theorem RepL.to{Γ:Ct}{H H':Hp}(k:∀b u,H b=some u->(∀o c,u≠.frz o (.own c))->H' b=some u):∀{ds:List D}{xs:List V},iu ds=true->RepL Γ H ds xs->RepL Γ H' ds xs
 |[],_,_,r=>by unfold RepL at r ⊢;exact r
 |d::ds,_,n,r=>by
  unfold RepL at r ⊢;unfold iu at n;rw[Bool.and_eq_true] at n;obtain⟨x,r',e1,q,r2⟩:=r;exact⟨x,r',e1,Rep.to k n.1 q,RepL.to k n.2 r2⟩
end
structure m7(P:Program)(w:World)(K:Frag)(mg:Str->Option Value)(base:Heap)(Γ:Ct)(j k:Nat)(F:List D->Option R):Prop where
 fn:∀H a xs,Γ.clo k H a xs->∃fd u,H a=some (.frz {cls:=.type "function",data:=.func fd} u)
 run:∀(A:Around)(outer:List PySem.Env)(s:Shared)(H Hs:Hp)(a:Addr)(xs:List V)(ds:List D)(v:V)(u:Value)(d:D)(r:S)(Q:VK),ba j A->jf P w K mg base A outer s H->aB Hs H->aB Γ.tb Hs->Γ.clo k Hs a xs->RepL Γ Hs ds xs->
  RelV v u->Rep Γ Hs d v->noFn d=true->iu ds=true->F (d::ds)=some (.ok r)->flat r.val=true->(∀v' H',aB H H'->Rep Γ H' r.val v'->Q v' H')->codeAny (model P w) A (.call (.ref a) ⟨[u],[]⟩) (CR jg outer P w H s Q E0) s
theorem m7.mono{P:Program}{w:World}{K:Frag}{mg:Str->Option Value}{base:Heap}{Γ:Ct}{i j k:Nat}{F:List D->Option R}(h:m7 P w K mg base Γ i k F)(l:i<=j):m7 P w K mg base Γ j k F:=
 ⟨h.fn,λA outer s H Hs a xs ds v u d r Q hr=>h.run A outer s H Hs a xs ds v u d r Q (hr.mono l)⟩
theorem GD{P:Program}{w:World}{K:Frag}{mg:Str->Option Value}{base:Heap}{Γ:Ct}{j k:Nat}{g:ME}{N:List Str}{L:dQ}(S:je N L)
  (hbind:∀(pm:Value)(clos:List (Str×Addr))(c:Addr)(ctv u:Value),bindArgs (kla_fn "<lambda>" L.qual L.params L.body L.scope clos pm (.ref c) ctv) ⟨[u],[]⟩=pure [(L.par,u)])
  (hclo:∀H a xs,Γ.clo k H a xs->HD L H a xs) (htb:∀b o,Γ.tb b=some o->∃good,o=.tab good)
  (body:∀(A:Around)(outer:List PySem.Env)(s:Shared)(H:Hp)(f c:Addr)(clos:List (Str×Addr)),ba j (A.deeper (j3 L s.heap.objs.size f c clos))->PD (y6 P w K mg base N L f c clos A outer s H) Γ W0 L.body g):
  m7 P w K mg base Γ (j+1) k (KF N.length g):=by
 refine⟨λH a xs h=>?_,λA outer s H Hs a xs ds v u d r Q hr e0 sm tb cl rl rv rd n1 n2 e fl hQ=>?_⟩
 ·obtain⟨cs,pm,c,ctv,e,_⟩:=hclo H a xs h;exact⟨_,_,e⟩
 ·obtain⟨cs,pm,c,ctv,ha,hcs,nd,hl⟩:=hclo Hs a xs cl;have kp:∀b u,Hs b=some u->(∀o c,u≠.frz o (.own c))->without Hs cs b=some u:=λb u e n=>by
   rw[fF]
   ·exact e
   ·intro hm;obtain⟨o,u',q,_⟩:=hcs.mem b hm;rw[q] at e;cases e;exact n _ _ rfl
  refine De (t:=tD Γ W0 g) S hbind hr e0 (sm _ _ ha) (hcs.mono sm) nd hl rv (body A outer s (without H cs) a c _ (hr.deeper _)) ⟨without Hs cs,without H cs,without Hs cs,aN N.length (d::ds),.ok r,?_,e,?_⟩
  ·refine gF (λb o q=>?_) (.cons (rd.to kp n1) (rl.to kp n2)) λb o q=>?_
   ·obtain⟨hb,q⟩:=kj q;rw[fF hb];exact sm _ _ q
   ·obtain⟨good,rfl⟩:=htb b o q;exact kp _ _ (tb _ _ q) λ_ _ z=>nomatch z
  ·intro v' Hs' H2 gr rs;refine hQ v' _ (λb o q=>?_) (rep_flat (rs.look gr) fl);by_cases hb:b∈cs
   ·rw[j8 hb];exact q
   ·rw[mJ hb];exact gr.h _ _ (by rw[fF hb];exact q)
def Kr(X:Cx)(Γ:Ct)(T:Nat->Option (List D->Option R)):Prop:=∀k F,T k=some F->∃j,ba j X.A/\m7 X.prog X.w X.K X.mg X.base Γ j k F
def L5(X:Cx)(pins:List (Addr×Obj))(R:V->L2.St->Hp->Prop)(f:Flow)(s':Shared):Prop:=match f with
 |.ret u=>∃v σ' H',ay X pins σ' H' s'/\RelV v u/\R v σ' H'
 |_=>False
def PR(X:Cx)(sts:List Stmt)(t:(V->L2.St->Hp->Prop)->L2.St->Hp->Prop):Prop:=
 ∀(pins:List (Addr×Obj))(s:Shared)(σ:L2.St)(H:Hp)(R:V->L2.St->Hp->Prop),ay X pins σ H s->t R σ H->wpAny (model X.prog X.w) X.A (execs sts X.env) (L5 X pins R) X.xe s
inductive xl(X:Cx)(lams:Nat->Option dQ)(Γ:Ct)(B0 B1:Hp)(σ':L2.St)(H':Hp):D->V->Prop
 |mk (Hs':Hp) (ρ':av) (k:Nat) (is:List Nat) (ds:List D) (L:dQ) (a:Addr) (pm:Value) (c:Addr) (ctv:Value) (cs:List Addr) (hL:lams k=some L) (re:RE Γ B0 B1 Hs' H' σ' ρ') (ha:Hs' a=some (.frz (L.obj (L.fv.zip cs) pm c ctv) (.fnc c L.qual)))
   (hv:jY ρ' is=some ds) (hn:is.map (X.N[·]?)=L.fv.map some) (hc:∀(j:Nat)(y:Str),L.fv[j]?=some y->∃c,cs[j]?=some c/\X.env.cells.lookup y=some c) (hl:cs.length=L.fv.length):xl X lams Γ B0 B1 σ' H' (.fn k ds) (.ref a)
inductive tR(X:Cx)(lams:Nat->Option dQ)(Γ:Ct)(g:CA)(R:V->L2.St->Hp->Prop)(σ:L2.St)(H:Hp):Prop
 |mk (B0 B1 Hs:Hp) (ρ:av) (d:D) (re:RE Γ B0 B1 Hs H σ ρ) (e:g ρ=some d) (q:∀v σ' H',xl X lams Γ B0 B1 σ' H' d v->R v σ' H')
abbrev Hu(X:Cx)(lams:Nat->Option dQ)(Γ:Ct)(sts:List Stmt)(g:CA):Prop:=PR X sts (tR X lams Γ g)
theorem RE.dems{Γ:Ct}{B0 B1 H:Hp}{σ:L2.St}:∀(is:List Nat){Hs:Hp}{ρ:av},RE Γ B0 B1 Hs H σ ρ->∃Hs',aB Hs Hs'/\RE Γ B0 B1 Hs' H σ (L3.dems is ρ)
 |[],Hs,ρ,re=>⟨Hs,.refl _,re⟩
 |i::is,Hs,ρ,re=>by
  obtain⟨Hs1,s1,re1⟩:=re.dem i;obtain⟨Hs2,s2,re2⟩:=RE.dems is re1;exact⟨Hs2,s1.trans s2,re2⟩
theorem BX{g:Str->Option Addr}:∀{fv:List Str},(∀y∈fv,∃c,g y=some c)->(fv.filterMap g).length=fv.length/\∀(j:Nat)(y:Str),fv[j]?=some y->∃c,(fv.filterMap g)[j]?=some c/\g y=some c
 |[],_=>⟨rfl,λj y h=>by simp at h⟩
 |f::fv,h=>by
  obtain⟨c,hc⟩:=h f mem_cons_self;obtain⟨h1,h2⟩:=BX (fv:=fv) λy hy=>h y (mem_cons_of_mem _ hy);have e:(f::fv).filterMap g=c::fv.filterMap g:=by rw[filterMap_cons,hc]
  rw[e];refine⟨by rw[length_cons,length_cons,h1],λj y hy=>?_⟩
  cases j with
  |zero=>
   simp at hy;subst hy;exact⟨c,rfl,hc⟩
  |succ j=>
   obtain⟨c',q1,q2⟩:=h2 j y (by simpa using hy)
   exact⟨c',by simpa using q1,q2⟩
section
variable{X:Cx}{Γ:Ct}{lams:Nat->Option dQ}{st:Stmt}{rest a:List Stmt}{g1:MC}{g2 ga gb:CA}{gc:ME}{c:Expr}{pos pos':Pos}
theorem G1(hc:sA X Γ W0 c gc)(ha:Hu X lams Γ a ga)(hb:Hu X lams Γ rest gb):Hu X lams Γ (.If c a [] pos::rest) (JB gc ga gb):=by
 intro pins s σ H R I ⟨B0,B1,Hs,ρ,d,re,e,q⟩;unfold JB at e;split at e
 ·rename_i s0 h;split at e
  ·rename_i t et;refine wpAny_execs_cons (wpAny_If (bW (hc pins s σ H (λb H1=>b=t/\∃Hs',aW Hs H Hs' H1) I ⟨B0,B1,Hs,ρ,.ok s0,re,h,⟨t,et,λHs' H' g'=>⟨rfl,Hs',g'⟩⟩⟩) λb s1 ⟨H1,I1,eb,Hs',g'⟩=>?_));subst eb;cases b with
   |true=>
    refine bW (ha pins s1 σ H1 R I1 ⟨B0,B1,Hs',ρ,d,re.grow g',e,q⟩) λf s2 z=>?_;cases f with
    |next=>exact z.elim
    |ret v=>exact z
    |brk=>exact z.elim
    |cont=>exact z.elim
   |false=>exact wpAny_execs_nil (hb pins s1 σ H1 R I1 ⟨B0,B1,Hs',ρ,d,re.grow g',e,q⟩)
  ·cases e
 ·cases e
theorem Dp{k:Nat}{is:List Nat}{L:dQ}{P cc:Addr}{good:Pos->Option Str}(hL:lams k=some L)(hn:is.map (X.N[·]?)=L.fv.map some)(hk:∀y∈L.fv,X.env.kindOf y=some .cell)(htb:Γ.tb P=some (.tab good))(hgp:sy good)(hC:CodeHd X.base cc P)(hcode:X.env.code=.ref cc)(hB:vf X.mg X.base)
  (hq:X.env.qual ++ "<lambda>" = L.qual) (hg:good pos=some L.qual) (hcl:closureFor L.scope X.env=pure (L.fv.zip (L.fv.filterMap (X.env.cells.lookup ·)))) (hdef:defaultsOf L.params X.env=([],[])):
  Hu X lams Γ [.Return (some (.Lambda L.params L.body L.scope pos)) pos'] (He k is):=by
 intro pins s σ H R I ⟨B0,B1,Hs,ρ,d,re,e,q⟩;unfold He at e;obtain⟨Hs1,s1,re1⟩:=re.dems is;cases hh:jY (L3.dems is ρ) is with
 |none=>rw[hh] at e;cases e
 |some ds=>
  rw[hh] at e;cases e;obtain⟨f1,f2⟩:=BX (g:=(X.env.cells.lookup ·)) (fv:=L.fv) λy hy=>I.ok.has y (.inl (hk y hy));refine wpAny_execs_cons (wpAny_Return_some (bW (G8 hgp hC hcode hB hq hg hcl hdef pins s σ H (λv H'=>xl X lams Γ B0 B1 σ H' (.fn k ds) v) I ⟨re.b.i _ _ (re.tb _ _ htb),λH0 a pm c ctv sm n=>?_⟩) λu s2 ⟨v,H1,I1,r1,q1⟩=>⟨v,σ,H1,I1,r1,q v σ H1 q1⟩));have hH:H a=none:=sm.free n;have hS:Hs1 a=none:=re1.b.i.free hH;refine .mk (aS Hs1 a _) (L3.dems is ρ) k is ds L a pm c ctv _ hL (re1.grow ⟨bB hS,sm.trans (bB n),λb o z=>?_,λb o z=>?_⟩) aq hh hn f2 f1
  ·by_cases hb:b=a
   ·subst hb;rw[aq] at z ⊢;exact z
   ·rw[ak hb] at z ⊢;exact sm _ _ (re1.b.i _ _ z)
  ·by_cases hb:b=a
   ·subst hb;exact .inr hH
   ·rw[ak hb] at z;exact .inl z
end
theorem uD{ρ:av}:∀{is:List Nat}{ds:List D},jY ρ is=some ds->is.length=ds.length/\∀(j i:Nat),is[j]?=some i->∃d,ds[j]?=some d/\ρ[i]?=some (some (.sh d))
 |[],ds,h=>by cases h;exact⟨rfl,λj i h=>by simp at h⟩
 |i::is,ds,h=>by
  unfold jY at h;split at h
  ·rename_i d hd;cases hh:jY ρ is with
   |none=>rw[hh] at h;cases h
   |some es=>
    rw[hh] at h;cases h;obtain⟨h1,h2⟩:=uD hh;refine⟨by rw[length_cons,length_cons,h1],λj i' hj=>?_⟩
    cases j with
    |zero=>simp at hj;subst hj;exact⟨d,rfl,hd⟩
    |succ j=>obtain⟨d',q1,q2⟩:=h2 j i' (by simpa using hj);exact⟨d',by simpa using q1,q2⟩
  ·cases h
theorem pN{α β γ:Type}{F:α->β->Prop}{G:γ->β->Prop}:∀{l:List α}{m:List γ},l.length=m.length->(∀(j:Nat)(a:α)(c:γ),l[j]?=some a->m[j]?=some c->∃b,F a b/\G c b)->∃xs,Paired F l xs/\Paired G m xs
 |[],[],_,_=>⟨[],.nil,.nil⟩
 |[],_::_,h,_=>by simp at h
 |_::_,[],h,_=>by simp at h
 |a::l,c::m,hl,h=>by
  obtain⟨b,f,g⟩:=h 0 a c rfl rfl;obtain⟨xs,p1,p2⟩:=pN (F:=F) (G:=G) (l:=l) (m:=m) (by simpa using hl) λj a' c' h1 h2=>h (j+1) a' c' (by simpa using h1) (by simpa using h2)
  exact⟨b::xs,.cons f p1,.cons g p2⟩
theorem xA{Γ:Ct}{H:Hp}:∀{ds:List D}{xs:List V},Paired (λd v=>Rep Γ H d v) ds xs->RepL Γ H ds xs
 |_,_,.nil=>.nil
 |_,_,.cons r t=>.cons r (xA t)
def cx(h:Heap)(cs:List Addr)(H:Hp):Hp:=λb=>if b∈cs then(h.get? b).map (λo=>HO.frz o (.own b)) else H b
theorem eB{h:Heap}{cs:List Addr}{H:Hp}{b:Addr}(n:b∉cs):cx h cs H b=H b:=by unfold cx;rw[if_neg n]
theorem lW{h:Heap}{cs:List Addr}{H:Hp}{b:Addr}{o:Obj}(m:b∈cs)(e:h.get? b=some o):cx h cs H b=some (.frz o (.own b)):=by unfold cx;rw[if_pos m,e];rfl
theorem tY{α:Type}:∀{l:List α},(∀(i j:Nat)(a:α),l[i]?=some a->l[j]?=some a->i=j)->l.Nodup
 |[],_=>.nil
 |a::l,h=>by
  refine nodup_cons.mpr ⟨λhm=>?_,tY λi j b h1 h2=>?_⟩
  ·obtain⟨j,hj,e⟩:=getElem_of_mem hm;have:=h 0 (j+1) a rfl (by simpa [getElem?_eq_getElem hj] using e)
   omega
  ·have:=h (i+1) (j+1) b (by simpa using h1) (by simpa using h2)
   omega
theorem pQ{α:Type}:∀{l:List α}{i j:Nat}{a:α},l.Nodup->l[i]?=some a->l[j]?=some a->i=j
 |[],_,_,_,_,h,_=>by simp at h
 |b::l,0,0,_,_,_,_=>rfl
 |b::l,0,j+1,a,nd,h1,h2=>by
  simp at h1;subst h1;exact absurd (mem_of_getElem? (by simpa using h2)) (nodup_cons.mp nd).1
 |b::l,i+1,0,a,nd,h1,h2=>by
  simp at h2;subst h2;exact absurd (mem_of_getElem? (by simpa using h1)) (nodup_cons.mp nd).1
 |b::l,i+1,j+1,a,nd,h1,h2=>by
  exact congrArg (· + 1) (pQ (i:=i) (j:=j) (a:=a) (nodup_cons.mp nd).2 (by simpa using h1) (by simpa using h2))
section
variable{P:Program}{w:World}{K:Frag}{mg:Str->Option Value}{base:Heap}{Γ:Ct}
theorem GQ{x qual:Str}{st:Stmt}{f cc:Addr}{fd:FuncData}{N ps:List Str}{k:Nat}{g:CA}{lams:Nat->Option dQ}(F:sC K x qual st f fd)(hcd:fd.code=.ref cc)(S:ax N ps (a9 st))
  (hclo:∀k L H a xs,lams k=some L->HD L H a xs->Γ.clo k H a xs) (hfv:∀k L,lams k=some L->L.fv.Nodup/\∀y∈L.fv,(a9 st).names.lookup y=some .cell)
  (body:∀(A:Around)(outer:List PySem.Env)(s:Shared)(H:Hp)(E:XK),ba k (A.deeper (envOfC qual (a9 st) s.heap.objs.size f (.ref cc)))->Hu (iB jg P w K mg base N qual (a9 st) f (.ref cc) A outer s H E).nox lams Γ (ao st) g):
  bV P w K mg base jg (k+1) f fd ps (A0 Γ W0 (GS ps.length N.length g)):=by
 obtain⟨oc,od,kV,doc,pm,an,cdv,ct,osl,rfl,lk,hci⟩:=F.ex;obtain rfl:cdv=.ref cc:=hcd;have len:∀vs H Q E,A0 Γ W0 (GS ps.length N.length g) vs H Q E->vs.length=ps.length:=λvs H Q E ⟨Hs,ds,r,sm,rl,e,q,tb⟩=>by
  unfold GS at e;split at e
  ·rename_i h;rw[←rl.length];exact h
  ·cases e
 refine⟨len,λA outer s H args us vs Q E hr e0 hb r hsp=>?_⟩;have hl:=len _ _ _ _ hsp;have KX:K.In s.heap:=e0.mod.kin.keeps λb o e=>(e0.bs b o e).1;have lim:s.heap.NoLimit:=e0.mod.nolimit.keeps λb o e=>(e0.bs b o e).1;have hkind:∀y∈ps.zip us,(a9 st).names.lookup y.1=some .local\/((a9 st).names.lookup y.1=some .cell/\((cellsFrom (s.heap.objs.size+1) (a9 st).names []).lookup y.1).isSome=true):=λ⟨n,v⟩ hy=>by
  rcases S.par n (of_mem_zip hy).1 with q|q
  ·exact .inl q
  ·exact .inr ⟨q,cellsFrom_some _ _ _ (.inl q)⟩
 refine codeAny_call_function hr.depth (KX _ _ lk) rfl S.co S.gen rfl (PySem.W.codeRec_of KX hci) (hb _ _ _ _ ?_);refine wpAny_newFunctionEnv_cells S.kind hkind λenv he s1 xx=>?_;subst he;refine⟨lim.keeps xx.toInCall.keep,codeAny_func ?_⟩;have I:ay (iB jg P w K mg base N qual (a9 st) f (.ref cc) A outer s H E) [] (start N vs) H s1:=pW S hr.hd e0 hl r xx;obtain⟨Hs,ds,rr,sm,rl,e,q,tb⟩:=hsp;unfold GS at e;split at e
 ·cases hg:g (aN N.length ds) with
  |none=>rw[hg] at e;cases e
  |some d=>
   rw[hg] at e;cases e;refine wpAny_mono (body A outer s H E (hr.deeper _) [] s1 (start N vs) H _ (I.wish _) ⟨Hs,H,Hs,aN N.length ds,d,gF sm rl tb,hg,λv σ' H' z=>z⟩) (λfl s' hs=>?_) λe s' hs=>False.elim hs;cases fl with
   |next=>exact hs.elim
   |brk=>exact hs.elim
   |cont=>exact hs.elim
   |ret u=>
    obtain⟨v,σ',H',J,rv,hE⟩:=hs;obtain⟨Hs',ρ',kk,is,ds',L,a,pm',c,ctv,cs,hL,re,ha,hv,hn,hc,hlen⟩:=hE;obtain⟨nd,hcell⟩:=hfv kk L hL;have look:∀(c':Addr),c'∈cs->∃(j:Nat)(y:Str),cs[j]?=some c'/\L.fv[j]?=some y/\(envOfC qual (a9 st) s.heap.objs.size f (.ref cc)).cells.lookup y=some c':=λc' hm=>by
     obtain⟨j,hj,ej⟩:=getElem_of_mem hm;have hj':j<L.fv.length:=by rw[←hlen];exact hj
     obtain⟨c2,q1,q2⟩:=hc j L.fv[j] (getElem?_eq_getElem hj');have ec:cs[j]?=some c':=by rw[getElem?_eq_getElem hj,ej]
     rw[ec] at q1;cases q1;exact⟨j,L.fv[j],ec,getElem?_eq_getElem hj',q2⟩
    have ndc:cs.Nodup:=tY λi j c' h1 h2=>by
     have hi:i<L.fv.length:=by rw[←hlen];exact(List.getElem?_eq_some_iff.mp h1).1
     have hj:j<L.fv.length:=by rw[←hlen];exact(List.getElem?_eq_some_iff.mp h2).1
     obtain⟨c2,q1,q2⟩:=hc i L.fv[i] (getElem?_eq_getElem hi);obtain⟨c3,q3,q4⟩:=hc j L.fv[j] (getElem?_eq_getElem hj);rw[h1] at q1;cases q1;rw[h2] at q3;cases q3;have eq:=J.ok.inj _ _ _ q2 q4;exact pQ nd (getElem?_eq_getElem hi) (by rw[getElem?_eq_getElem hj,eq])
    have free:∀c'∈cs,H' c'=none:=λc' hm=>by
     obtain⟨j,y,_,_,e2⟩:=look c' hm;exact J.freeC y c' e2
    have fr0:∀c'∈cs,s.heap.objs.size<=c':=λc' hm=>by
     obtain⟨j,y,_,_,e2⟩:=look c' hm;exact J.ok.cab y c' rfl e2
    have sH:aB H' (cx s'.heap cs H'):=λb o e=>by
     rw[eB]
     ·exact e
     ·intro hm;rw[free b hm] at e;cases e
    have sHs:aB Hs' (cx s'.heap cs Hs'):=λb o e=>by
     rw[eB]
     ·exact e
     ·intro hm;rw[re.b.i.free (free b hm)] at e;cases e
    have sI:aB (cx s'.heap cs Hs') (cx s'.heap cs H'):=λb o e=>by
     by_cases hm:b∈cs
     ·unfold cx at e ⊢;rw[if_pos hm] at e ⊢;exact e
     ·rw[eB hm] at e ⊢;exact re.b.i _ _ e
    obtain⟨hl1,hget⟩:=uD hv;have hl2:is.length=L.fv.length:=by have:=congrArg List.length hn;simpa using this
    obtain⟨xs,p1,p2⟩:=pN (F:=λd v=>Rep Γ (cx s'.heap cs Hs') d v) (G:=λ(c:Addr)(x:V)=>∃o u,cx s'.heap cs Hs' c=some (.frz o (.own c))/\o.data=.cell (some u)/\RelV x u) (l:=ds') (m:=cs) (by rw[←hl1,hl2,hlen]) λj d c' h1 h2=>by
     have hj:j<is.length:=by rw[hl1];exact(List.getElem?_eq_some_iff.mp h1).1
     obtain⟨d2,q1,q2⟩:=hget j is[j] (getElem?_eq_getElem hj);rw[h1] at q1;cases q1;obtain⟨v2,e2,rp⟩:=re.sh _ _ q2;have hj':j<L.fv.length:=by rw[←hl2];exact hj
     have hN:N[is[j]]?=some L.fv[j]:=by
      have:=congrArg (·[j]?) hn;simp only[getElem?_map,getElem?_eq_getElem hj,getElem?_eq_getElem hj',Option.map_some,Option.some.injEq] at this;exact this
     obtain⟨c3,q3,q4⟩:=hc j L.fv[j] (getElem?_eq_getElem hj');rw[h2] at q3;cases q3;have hk:(a9 st).names.lookup L.fv[j]=some .cell:=hcell _ (getElem_mem hj');obtain⟨m,_,hloc⟩:=J.loc;obtain⟨u2,r2,lk2⟩:=hloc is[j] L.fv[j] v2 hN e2 (.inr (.inl hk));rcases lk2 with⟨z,_⟩|⟨_,c4,e4,o,ho,hdat⟩
     ·have z:(a9 st).names.lookup L.fv[j]=some .local:=z;rw[hk] at z;cases z
     ·have e4:(envOfC qual (a9 st) s.heap.objs.size f (.ref cc)).cells.lookup L.fv[j]=some c4:=e4;have q4:(envOfC qual (a9 st) s.heap.objs.size f (.ref cc)).cells.lookup L.fv[j]=some c':=q4;rw[q4] at e4;cases e4;exact⟨v2,rp.mono sHs,o,u2,lW (mem_of_getElem? h2) ho,hdat,r2⟩
    have fin:=q (.ref a) (cx s'.heap cs Hs') (cx s'.heap cs H') ⟨re.b.s.trans sHs,re.b.h.trans sH,sI,λb o z=>by
      by_cases hm:b∈cs
      ·exact .inr (re.b.h.free (free b hm))
      ·rw[eB hm] at z;exact re.b.n _ _ z⟩ (bH.of (kY.mpr ⟨a,xs,rfl,hclo kk L _ a xs hL ⟨cs,pm',c,ctv,sHs _ _ ha,p2,ndc,hlen⟩,xA p1⟩))
    refine⟨.ref a,cx s'.heap cs H',J.os,J.bare,?_,λb o e=>?_,rv,fin⟩
    ·have B:=J.base;refine⟨B.keep,B.slot,λb o g n hx=>?_,B.there,λb ys e=>sH _ _ (B.tups b ys e),λb o z e=>sH _ _ (B.frzs b o z e),λb ps e=>?_⟩
     ·rw[eB λhm=>absurd (lt_of_lt_of_le (lt_size g) (fr0 b hm)) (lt_irrefl _)];exact B.free b o g n hx
     ·obtain⟨more,z⟩:=B.tbls b ps e;exact⟨more,sH _ _ z⟩
    ·by_cases hm:b∈cs
     ·obtain⟨j,y,_,_,e2⟩:=look b hm;obtain⟨u3,o3,g3,_⟩:=J.cell y b e2;rw[lW hm g3] at e;cases e;exact⟨g3,⟨o3,g3⟩⟩
     ·rw[eB hm] at e;exact(J.hok b o e).stay (λ_ _ _ z=>z) (λ_ z=>sH _ _ z) (λ_ _ z=>sH _ _ z) λ_ _ _ z=>sH _ _ z
 ·cases e
end
def vJ(K:Frag)(PT:Addr)(good:Pos->Option Str):Sp:=λvs H Q _=>
 ∃(a:Addr)(ns:List Int),vs=[.ref a]/\jE K H a (ns.map V.int)/\ns.length<=63/\H PT=some (.tab good)/\∀H',H' PT=some (.tab good)->Q (.bl true) H'
theorem Eb{P:Program}{w:World}{K:Frag}{mg:Str->Option Value}{base:Heap}{Γ:Ct}{k:Nat}{f PT:Addr}{good:Pos->Option Str}{fd:FuncData}{x:Str}{F:List D->Option R}(h:bV P w K mg base jg k f fd [x] (A0 Γ W0 F))(hK:Γ.K=K)(htb:Γ.tb=λb=>if b=PT then some (.tab good) else none)
  (T:∀ns:List Int,ns.length<=63->F [.lst (ns.map D.int)]=some (.ok (.sh (.bl true)))):bV P w K mg base jg k f fd [x] (vJ K PT good):=
 h.imp λvs H Q E ⟨a,ns,ev,hS,hl,hP,q⟩=>by
  subst hK;subst ev;refine⟨H,[.lst (ns.map D.int)],_,.refl _,.cons (aT.mpr ⟨a,_,rfl,hS,RepL.ints ns⟩) .nil,T ns hl,λv Hs' H' g rs=>?_,λb o z=>?_⟩
  ·have rs':Rep Γ Hs' (.bl true) v:=rs;rw[az.mp rs'];exact q H' (g.h _ _ hP)
  ·rw[htb] at z;have z':(if b=PT then some (HO.tab good) else none)=some o:=z;split at z'
   ·rename_i e;cases z';rw[e];exact hP
   ·cases z'
theorem zF{P:Program}{w:World}{K:Frag}{mg mb:Str->Option Value}{k:Nat}{fa a cc PT:Addr}{good:Pos->Option Str}{fd:FuncData}{x:Str}{s₁:Shared}{vs:List Value}{ns:List Int}
  (KX:K.In s₁.heap) (hns:s₁.heap.Ns mainGlobals mg) (hb:s₁.heap.Ns builtinsNs mb) (hbb:∀x:Str,x ≠ "__name__" -> mb x=bootBuiltins x) (hlim:s₁.heap.NoLimit) (hg:s₁.gens=#[])
  (hC:CodeHd s₁.heap cc PT) (hT:s₁.heap.get? PT=some (tabObj #[])) (hB:vf mg s₁.heap) (hK0:noTabs K=true)
  (ha:s₁.heap.get? a=some {cls:=.type "list",data:=.seq vs.toArray}) (hi:IntsAre vs ns) (hl:ns.length<=63) (hr:ba k callerA)
  (F:∀base:Heap,CodeHd base cc PT->vf mg base->bV P w K mg base jg k fa fd [x] (vJ K PT good)) (hbind:∀(s:Shared)(u:Value),BindsTo s fd ⟨[u],[]⟩ [(x,u)]):
  codeAny (model P w) callerA (.call (.ref fa) ⟨[.ref a],[]⟩) (λr s'=>r=.ok (.ret (.bool true))/\OldK s₁.heap s'.heap/\s'.os=s₁.os/\AllBare s'.gens) s₁:=by
 have rv:=kR hi;have lenV:=hi.length;have hl':ns.length<=sizeLine:=le_trans hl (by decide)
 have aP:a≠PT:=λz=>by rw[z,hT] at ha;cases ha
 have core:∀H:Hp,H PT=some (.tab good)->(∀b,b≠PT->H b≠none->b=a/\K.lookup a=none/\∃o xs,H b=some (.frz o (.lst xs)))->jE K H a (ns.map V.int)->jB P w H s₁.heap->
   codeAny (model P w) callerA (.call (.ref fa) ⟨[.ref a],[]⟩) (λr s'=>r=.ok (.ret (.bool true))/\OldK s₁.heap s'.heap/\s'.os=s₁.os/\AllBare s'.gens) s₁:=by
  intro H hP hA hS hok;have keep:∀{b:Addr}{o:Obj},s₁.heap.get? b=some o->o≠tabObj #[]->(b=a->K.lookup a=none->False)->(iZ s₁.heap H).get? b=some o:=λ{b o} e n1 n2=>uC e (by
   cases q:H b with
   |none=>rfl
   |some u=>
    by_cases hbP:b=PT
    ·subst hbP;rw[hT] at e;cases e;exact absurd rfl n1
    ·obtain⟨z1,z2,_⟩:=hA b hbP (by rw[q];simp)
     exact(n2 z1 z2).elim)
  have keepD:∀{b:Addr}{o:Obj},s₁.heap.get? b=some o->o≠tabObj #[]->o.cls≠.type "list" -> (iZ s₁.heap H).get? b=some o:=λ{b o} e n1 n2=>keep e n1 λz _=>by
   subst z;rw[ha] at e;cases e;exact n2 rfl
  have nsK:∀{b:Addr}{m:Str->Option Value},s₁.heap.Ns b m->(iZ s₁.heap H).Ns b m:=λ{b m} ⟨o,es,ep,e,d,r⟩=>⟨o,es,ep,keep e (λz=>by rw[z] at d;cases d) (λz _=>by
   subst z;rw[ha] at e;cases e;cases d),d,r⟩
  have hKb:K.In (iZ s₁.heap H):=λb o e=>keep (KX b o e) (λz=>by
   have h2:=all_eq_true.mp hK0 (b,o) (mem_of_lookupK e);subst z;exact absurd (show false=true from h2) Bool.false_ne_true) λz1 z2=>by subst z1;rw[z2] at e;cases e
  have hM:Mod K mg (iZ s₁.heap H):=⟨hKb,nsK hns,⟨mb,nsK hb,hbb⟩,let ⟨mc,h1,h2⟩:=hlim;⟨mc,nsK h1,h2⟩⟩;have hC':CodeHd (iZ s₁.heap H) cc PT:=by
   obtain⟨o,vs',file,tf,flags,tg,inF,text,tt,e1,r1,r2⟩:=hC;exact⟨o,vs',file,tf,flags,tg,inF,text,tt,keepD e1 (λz=>by rw[z] at r1;cases r1) (λz=>by rw[r1] at z;exact absurd z (by decide)),r1,r2⟩
  have hB':vf mg (iZ s₁.heap H):=by
   obtain⟨bm,o,b1,b2,b3,b4,b5,b6⟩:=hB;exact⟨bm,o,b1,b2,b3,keepD b4 (λz=>by rw[z] at b5;cases b5) (λz=>by rw[b5] at z;exact absurd z (by decide)),b5,b6⟩
  have e0:jf P w K mg (iZ s₁.heap H) callerA [] s₁ H:=⟨rfl,hM,λb o e=>xM e,le_of_eq (qc _ _),trivial,λb hb=>absurd (show b∈([]:List Addr) from hb) (by simp),hok,.of_eq hg⟩
  refine codeAny_mono ((F _ hC' hB').run callerA [] s₁ H ⟨[.ref a],[]⟩ [.ref a] [.ref a] (λv H'=>v=.bl true/\H' PT=some (.tab good)) (λ_ _ _=>False) hr e0 (hbind s₁ (.ref a)) (.cons rfl .nil) ⟨a,ns,rfl,hS,hl,hP,λH' z=>⟨rfl,z⟩⟩) λr s' h=>?_;cases r with
  |error e=>exact False.elim h
  |ok fl=>
   cases fl with
   |next=>exact False.elim h
   |brk=>exact False.elim h
   |cont=>exact False.elim h
   |ret u=>
    obtain⟨v,H',os,bare,un,hok',r',ev,hP'⟩:=h;subst ev;obtain rfl:u=Value.bool true:=r';obtain⟨ps,eps,_⟩:=hok' PT _ hP';have old:∀b o,b≠PT->s₁.heap.get? b=some o->s'.heap.get? b=some o:=λb o hb e=>by
     cases q:H b with
     |none=>exact un.keep b o e q (by intro z;exact absurd (show b∈([]:List Addr) from z) (by simp)) (by simp)
     |some u=>
      obtain⟨_,_,ob,xs,z⟩:=hA b hb (by rw[q];simp)
      have z2:=un.frzs b ob _ z;obtain⟨e1,_⟩:=hok b _ z;obtain⟨e2,_⟩:=hok' b _ z2;rw[e] at e1;cases e1;exact e2
    refine⟨rfl,⟨λb o e=>?_,λb o e=>?_⟩,os,bare⟩
    ·by_cases hb:b=PT
     ·subst hb;rw[hT] at e;cases e;exact .inr (.inl ⟨(hC.tab hT).isCodeTable,rfl,#[],ps,rfl,by rw[Array.empty_append];exact eps⟩)
     ·exact .inl (old b o hb e)
    ·by_cases hb:b=PT
     ·subst hb;exact⟨_,eps⟩
     ·exact⟨o,old b o hb e⟩
 have okT:∀H:Hp,aY P w H s₁.heap PT (.tab good):=λH=>⟨#[],hT,True.intro,λp cv _ hc=>by cases hc⟩
 cases hk:K.lookup a with
 |some o=>
  have e:=KX a o hk;rw[ha] at e;cases e;refine core (λb=>if b=PT then some (.tab good) else none) (if_pos rfl) (λb hb z=>absurd (if_neg hb) z) (.inr ⟨_,vs.toArray,_,hk,rfl,rfl,rfl,by rw[size_toArray,lenV];exact hl',by simpa using rv⟩) λb u z=>?_
  have z':(if b=PT then some (HO.tab good) else none)=some u:=z;split at z'
  ·rename_i e;subst e;cases z';exact okT _
  ·cases z'
 |none=>
  refine core (λb=>if b=PT then some (.tab good) else if b=a then some (.frz {cls:=.type "list",data:=.seq vs.toArray} (.lst (ns.map V.int))) else none) (if_pos rfl) (λb hb z=>?_) (.inl (.inr ⟨{cls:=.type "list",data:=.seq vs.toArray},(if_neg aP).trans (if_pos rfl)⟩)) λb u z=>?_
  ·have z':(if b=PT then some (HO.tab good) else if b=a then some (.frz {cls:=.type "list",data:=.seq vs.toArray} (.lst (ns.map V.int))) else none)≠none:=z;rw[if_neg hb] at z';by_cases hba:b=a
   ·exact⟨hba,hk,_,_,(if_neg hb).trans (if_pos hba)⟩
   ·rw[if_neg hba] at z';exact absurd rfl z'
  ·have z':(if b=PT then some (HO.tab good) else if b=a then some (.frz {cls:=.type "list",data:=.seq vs.toArray} (.lst (ns.map V.int))) else none)=some u:=z;split at z'
   ·rename_i e;subst e;cases z';exact okT _
   ·split at z'
    ·rename_i e;subst e;cases z';exact⟨ha,by rw[length_map];exact hl',vs,_,rv,ha⟩
    ·cases z'
theorem zE{l:PySem.W.OpenLaw}{q:Program}{loose:List Str}{XP:(Str->Option Value)->Heap->Prop}{YP:World->Heap->Prop}{d dP:DefRec}{K:Params->Frag}{k:Nat}{x y:Str}{cc PT:Addr}{good:Pos->Option Str}(hk:k<=60)(hn:l.most=some 63)(hdf:d.params.defaults=[])
  (hrec:(recsOf q).find? (λe=>e.name == y)=some dP) (htab:∀w:World,tabIn (K w.params) y=some (cc,PT)) (hno:∀w:World,noTabs (K w.params)=true)
  (hY:∀(w:World)(h:Heap),YP w h->(K w.params).In h)
  (F:∀(w:World)(mg:Str->Option Value)(fa:Addr)(h:Heap),(K w.params).In h->h.Ns mainGlobals mg->mg d.name=some (.ref fa)->
   ∃fd:FuncData,(∀(s:Shared)(u:Value),BindsTo s fd ⟨[u],[]⟩ [(x,u)])/\∀base:Heap,CodeHd base cc PT->vf mg base->bV l.prog w (K w.params) mg base jg k fa fd [x] (vJ (K w.params) PT good)):
  PySem.W.WalkO q loose XP YP l.row.toRowW d [] (λf vs=>PySem.call f vs):=by
 refine Att.attach_call hn hdf λw s₀ s₁ mg mb fa o pm cd doc a vs ns G Y ho hd hcd hmg hobj hints hlen hg=>?_;have KX:=hY w _ Y;obtain⟨fd,hb,hF⟩:=F w mg fa _ KX G.T.g hmg;obtain⟨hC,hT⟩:=tab_of G.T KX hrec (htab w);obtain⟨bm,ob,b1,b2,b3,b4,b5,b6⟩:=G.T.bmain;have bG:bm≠mainGlobals:=λz=>by
  obtain⟨o',es,ep,e,hd',_⟩:=G.T.g;rw[z,e] at b3;cases b3;rw[hd'] at b6;cases b6
 exact zF KX G.T.g G.T.b G.T.builtins G.T.nolimit hg hC hT ⟨bm,ob,b1,b2,bG,b3,b4,b5,b6⟩ (hno w) hobj hints hlen (ba.mono (k:=60) ⟨rfl,by decide,by decide⟩ hk) hF hb
end L3
namespace L3
open PySem PySem.Spec PyProof.Rows L2
end L3
namespace L3
open PySem PySem.Spec PyProof.Rows L2 PySem.W
def Ia:Stmt->Expr
 |.Return (some e) _=>e
 |.If _ [.Return (some e) _] _ _=>e
 |_=>.Name "" ⟨0,0,0,0⟩
def IH(e:Expr)(qual par:Str)(fv:List Str):dQ:=match e with
 |.Lambda p b sc _=>⟨p,b,sc,qual,par,fv⟩
 |_=>⟨{posonlyargs:=[],args:=[],vararg:=none,kwonlyargs:=[],kw_defaults:=[],kwarg:=none,defaults:=[]},e,{kind:=.function,names:=[],isGenerator:=false,isCoroutine:=false},qual,par,fv⟩
def wK(ls:List (Nat×Nat))(q:Str):Pos->Option Str:=λp=>if ls.contains (p.line,p.col) then some q else none
theorem zK{ls:List (Nat×Nat)}{q:Str}:sy (wK ls q):=λp p' h1 h2=>by unfold wK;rw[h1,h2]
theorem Bw{N:List Str}{L:dQ}(kind:L.scope.kind=.function)(co:L.scope.isCoroutine=false)(gen:L.scope.isGenerator=false)(nd:N.Nodup)(pre:N.take (1+L.fv.length)=L.par::L.fv)(par:L.scope.names.lookup L.par=some .local\/L.scope.names.lookup L.par=some .cell)
  (fvs:∀y∈L.fv,L.scope.names.lookup y=some .free/\(y,NameKind.cell)∉L.scope.names) (all:∀p∈L.scope.names,p.2=.free->p.1∈L.fv):je N L:=
 ⟨kind,co,gen,nd,pre,par,fvs,λy h=>all (y,.free) (PySem.mem_of_lookup h) rfl⟩
theorem EG{K:Frag}{cls:String->Addr}{lams:Nat->Option dQ}{PT:Addr}{good:Pos->Option Str}:∀b o,(HH K cls lams PT good).tb b=some o->∃g,o=.tab g:=λb o h=>by
 have h':(if b=PT then some (HO.tab good) else none)=some o:=h;split at h'
 ·cases h';exact⟨_,rfl⟩
 ·cases h'
theorem Hb{K:Frag}{cls:String->Addr}{lams:Nat->Option dQ}{PT:Addr}{good:Pos->Option Str}:(HH K cls lams PT good).tb PT=some (.tab good):=if_pos rfl
theorem EH{K:Frag}{cls:String->Addr}{lams:Nat->Option dQ}{PT:Addr}{good:Pos->Option Str}{k:Nat}{L:dQ}(h:lams k=some L)(hk:k≠DK:=by decide):∀H a xs,(HH K cls lams PT good).clo k H a xs->HD L H a xs:=λH a xs z=>by
 rcases z with⟨e,_⟩|⟨L',e,q⟩
 ·exact(hk e).elim
 ·rw[h] at e;cases e;exact q
structure yk(K:Frag)(mg:Str->Option Value)(x:Str)(st:Stmt)(ps:List Str)(cc:Addr):Prop where
 ex:∃f fd,sC K x x st f fd/\mg x=some (.ref f)/\bO K fd ps []/\fd.code=.ref cc
theorem BV{P:Program}{w:World}{K:Frag}{mg:Str->Option Value}{base:Heap}{cls:String->Addr}{lams:Nat->Option dQ}{PT:Addr}{good:Pos->Option Str}{x:Str}{st:Stmt}{N ps:List Str}{k:Nat}{cc:Addr}{g:CA}(L:yk K mg x st ps cc)(S:ax N ps (a9 st))
  (hfv:∀k L,lams k=some L->L.fv.Nodup/\∀y∈L.fv,(a9 st).names.lookup y=some .cell)
  (body:∀(f:Addr)(A:Around)(outer:List PySem.Env)(s:Shared)(H:Hp)(E:XK),ba k (A.deeper (envOfC x (a9 st) s.heap.objs.size f (.ref cc)))->Hu (iB jg P w K mg base N x (a9 st) f (.ref cc) A outer s H E).nox lams (HH K cls lams PT good) (ao st) g):
  cY P w K mg base (HH K cls lams PT good) (k+1) x ps (GS ps.length N.length g):=by
 obtain⟨f,fd,F,hm,hb,hc⟩:=L.ex;exact⟨f,fd,GQ F hc S (λk L H a xs h1 h2=>.inr ⟨L,h1,h2⟩) hfv (body f),hm,F.kp,hb⟩
theorem By{K:Frag}{mg:Str->Option Value}{h:Heap}(X:K.In h)(G:h.Ns mainGlobals mg){x:Str}{st:Stmt}{ps:List Str}{f cc:Addr}{oc:Value}{od an:Option Addr}{osl:Array (Option Value)}{kV doc pm ct:Value}(a:PySem.W.nsIn K mainGlobals x=some (some (.ref f)))
  (l:K.lookup f=some ⟨oc,od,.func (fnOf x x (aw st) (ao st) (a9 st) .none kV doc pm an (.ref cc) ct),osl⟩) (c:codeIn K (.ref cc) x=true) (k:PySem.W.keepIn K (.ref f)=true)
  (b:∀(kV doc pm:Value)(an:Option Addr)(cdv ct:Value)(us:List Value),us.length=ps.length->bindArgs (fnOf x x (aw st) (ao st) (a9 st) .none kV doc pm an cdv ct) ⟨us,[]⟩=pure (ps.zip us)):yk K mg x st ps cc:=
 ⟨_,_,gu l c k,mg_of X G a,(gu l c k).binds b,rfl⟩
def sd(T:Nat->Option (List D->Option R))(gf ga:ME):ME:=λρ=>b9 (gf ρ) λf=>match f with
 |.fn k ds=>b9 (ga ρ) λd=>if noFn d && iu ds then(match T k with
  |some F=>iw (F (d::ds))
  |none=>none) else none
 |_=>none
section
variable{X:Cx}{Γ:Ct}{T:Nat->Option (List D->Option R)}{pos:Pos}{fe e:Expr}{gf ga:ME}
theorem AS(hT:Kr X Γ T)(hf:PD X Γ W0 fe gf)(ha:kh X Γ W0 [e] [ga])
  (ht:eval (.Call fe [e] [] pos) X.env=(do callWith pos (←eval fe X.env) [] (backTo pos (starEach [e] X.env)) (backToKw pos (keywordEach [] X.env))):=by rfl)
  (he:starEach [e] X.env=(false,eval e X.env)::starEach [] X.env:=by rfl):
  PD X Γ W0 (.Call fe [e] [] pos) (sd T gf ga):=by
 intro pins s σ H Q I ⟨B0,B1,Hs,ρ,r,re,e1,q⟩;rw[ht];refine wpAny_bind (bW (hf pins s σ H _ I (bK re e1 q)) λf s1 ⟨v',H',I1,r1,Hs0,fd0,g0,re0,rp,e2,q0⟩=>?_);cases fd0 with
 |fn k ds=>
  obtain⟨a,xs,rfl,cl,rl⟩:=kY.mp rp;obtain rfl:f=Value.ref a:=r1;have step:=bK re0 e2 q0;rw[he];refine callWith_of (P:=λh=>∃fd,h.get? a=some {cls:=.type "function",data:=.func fd}) (by show((false || (backTo pos (starEach [] X.env)).any (·.1)) || false)=false;rfl) (λh ⟨fd,eh⟩=>⟨.frame,.inl rfl,(Looks.ld (part:=none) eh).andThen .now⟩) (Calls.evalArgs_plain ?_)
  have ha':=ha pos pins s1 σ H' (λvs H1=>∃v1,vs=[v1]/\∃Hs1 d,aW Hs0 H' Hs1 H1/\RE Γ B0 B1 Hs1 H1 σ ρ/\Rep Γ Hs1 d v1/\(if(noFn d && iu ds)=true then(match T k with|some F=>iw (F (d::ds))|none=>none) else none)=some r/\RQ Γ W0 Hs1 H1 r Q) I1 (step.mono λv1 H1 z=>⟨v1,rfl,z⟩)
  rw[he] at ha';refine bW ha' λus s2 ⟨vs,H2,I2,r2,v1,evs,Hs1,d,g1,re1,rd,e3,q2⟩=>?_;subst evs;obtain⟨u,rfl,ru⟩:=lM r2;split at e3
  ·rename_i hn;rw[Bool.and_eq_true] at hn;split at e3
   ·rename_i F hF;obtain⟨j,hr,ok⟩:=hT k F hF;have cl2:=Γ.cloM g1.s cl;obtain⟨fd,uo,hfd⟩:=ok.fn Hs1 a xs cl2;cases hFr:F (d::ds) with
    |none=>rw[hFr] at e3;cases e3
    |some R0=>
     rw[hFr] at e3;cases R0 with
     |exc y=>cases e3
     |ok s0=>
      have e4:(if flat s0.val=true then okD s0.val else none)=some r:=e3;split at e4
      ·rename_i hfl;cases e4;refine⟨⟨fd,(I2.hok a _ (g1.i _ _ hfd)).1⟩,?_⟩;refine wpAny_call (codeAny_mono (ok.run X.A X.stack s2 H2 Hs1 a xs ds v1 u d s0 Q hr I2.env0 g1.i re1.tb cl2 (rl.mono g1.s) ru rd hn.1 hn.2 hFr hfl λv' H' sm' rp'=>?_) λr s' hq=>?_)
       ·exact q2 v' Hs1 H' (.only g1.i sm') (bH.of (rep_flat rp' hfl))
       ·cases r with
        |error e=>exact hq.elim
        |ok fl=>
         cases fl with
         |ret u=>exact I2.after hq
         |next=>exact False.elim hq
         |brk=>exact False.elim hq
         |cont=>exact False.elim hq
      ·cases e4
   ·cases e3
  ·cases e3
 |_=>cases e2
end
end L3
namespace L3
open PySem PySem.Spec PyProof.Rows L2
section
variable{Γ:Ct}{B0 B1 Hs H Hs' H':Hp}{σ:L2.St}{ρ:av}{a:Addr}{o o':O}{ho ho':HO}
theorem cX.core(h:cX Γ Hs a o ho):cX Γ Hs a o.core ho:=by
 cases o with
 |par b u=>exact h.2
 |_=>exact h
theorem cX.put(h:cX Γ Hs a o ho)(h':cX Γ Hs' a o' ho'):cX Γ Hs' a (o.put o') ho':=by
 cases o with
 |par b u=>exact⟨h.1,h'⟩
 |_=>exact h'
theorem RE.called(r:RE Γ B0 B1 Hs H σ ρ){i:Nat}(e:ρ[i]?=some (some (.own o)))(ea:σ[i]?=some (some (.ref a)))(g:fR a Hs H Hs' H')(hs:Hs' a=none)(hh:H' a=some ho')(q:cX Γ Hs' a o' ho'):RE Γ B0 B1 Hs' H' σ (ρ.set i (some (.own o'))):=by
 obtain⟨c,hc,e1,e2,e3,e4,_⟩:=r.own i o e;rw[ea] at e1;cases e1;have hi:i<ρ.length:=(List.getElem?_eq_some_iff.mp e).1;have old:∀(j:Nat)(u:O),(ρ.set i (some (.own o')))[j]?=some (some (.own u))->∃u',ρ[j]?=some (some (.own u')):=λj u hj=>by
  by_cases h:i=j
  ·subst h;exact⟨o,e⟩
  ·rw[getElem?_set_ne h] at hj;exact⟨u,hj⟩
 refine⟨⟨r.b.s.trans g.s,λb u z=>g.h b u (aC z e2) (r.b.h b u z),g.i,λb u z=>?_⟩,λj d hj=>?_,λj u hj=>?_,λj k u u' c hjk hj hk ha=>?_,by rw[length_set,r.len],r.tb.trans g.s⟩
 ·rcases g.n b u z with z|z
  ·exact r.b.n b u z
  ·exact .inr (r.b.h.free z)
 ·by_cases h:i=j
  ·subst h;rw[getElem?_set_self hi] at hj;cases hj
  ·rw[getElem?_set_ne h] at hj;obtain⟨v,f1,f2⟩:=r.sh j d hj;exact⟨v,f1,f2.mono g.s⟩
 ·by_cases h:i=j
  ·subst h;rw[getElem?_set_self hi] at hj;cases hj;exact⟨a,ho',ea,e2,hs,hh,q⟩
  ·rw[getElem?_set_ne h] at hj;obtain⟨c,hc,f1,f2,f3,f4,f5⟩:=r.own j u hj;have hne:c≠a:=λz=>by subst z;exact r.apart i j o u c h e hj ea f1
   refine⟨c,hc,f1,f2,?_,g.h c hc hne f4,f5.mono g.s⟩;cases z:Hs' c with
   |none=>rfl
   |some w=>
    rcases g.n c w z with z'|z'
    ·rw[f3] at z';cases z'
    ·rw[f4] at z';cases z'
 ·obtain⟨w,hj'⟩:=old j u hj;obtain⟨w',hk'⟩:=old k u' hk;exact r.apart j k w w' c hjk hj' hk' ha
end
inductive tM(Γ:Ct)(g:MP)(σ:L2.St)(H:Hp)(Q:VK):Prop
 |mk (B0 B1 Hs:Hp) (ρ:av) (d:D) (ρ':av) (re:RE Γ B0 B1 Hs H σ ρ) (e:g ρ=some (d,ρ')) (q:∀v Hs' H',aB Hs Hs'->RE Γ B0 B1 Hs' H' σ ρ'->Rep Γ Hs' d v->Q v H')
inductive KS(Γ:Ct)(F:MF)(vs:List V)(H:Hp)(Q:VK):Prop
 |mk (a:Addr) (xs ys:List V) (Hs:Hp) (o:O) (ho:HO) (ds es:List D) (d:D) (o':O) (ev:vs=xs++.ref a::ys) (sm:aB Hs H) (hs:Hs a=none) (hh:H a=some ho) (ro:cX Γ Hs a o ho) (r1:RepL Γ Hs ds xs) (r2:RepL Γ Hs es ys) (e:F o ds es=some (d,o'))
  (q:∀v Hs' H' ho',fR a Hs H Hs' H'->Hs' a=none->H' a=some ho'->cX Γ Hs' a o' ho'->Rep Γ Hs' d v->Q v H') (tb:aB Γ.tb Hs)
def KU(Γ:Ct)(F:MF):Sp:=λvs H Q _=>KS Γ F vs H Q
def lZ(Γ:Ct)(i:Nat)(hs:List ME):List ME->TA
 |[]=>sV (jD i) (lY Γ W0 hs)
 |g::gs=>sV (tD Γ W0 g) (lZ Γ i hs gs)
section
variable{X:Cx}{Γ:Ct}{i:Nat}{e:Expr}{es:List Expr}{g:ME}{gs hs:List ME}
theorem tO(hv:PE X e (jD i))(h:kh X Γ W0 es hs)(hst:starEach (e::es) X.env=(false,eval e X.env)::starEach es X.env:=by rfl):PA X (e::es) (lZ Γ i hs []):=bF hv h hst
theorem eH(h:PD X Γ W0 e g)(t:PA X es (lZ Γ i hs gs))(hst:starEach (e::es) X.env=(false,eval e X.env)::starEach es X.env:=by rfl):PA X (e::es) (lZ Γ i hs (g::gs)):=bF h t hst
theorem kd:∀(gs:List ME){σ:L2.St}{H:Hp}{Q Q':List V->Hp->Prop},(∀v H,Q v H->Q' v H)->lZ Γ i hs gs σ H Q->lZ Γ i hs gs σ H Q'
 |[],_,_,_,_,h,⟨v,e,t⟩=>⟨v,e,bz hs (λvs H z=>h _ _ z) t⟩
 |g::gs,_,_,_,_,h,t=>tD.mono t λv H1 t'=>kd gs (λvs H2 z=>h _ _ z) t'
theorem oo{a:Addr}{es:List D}:∀(gs:List ME){B0 B1 Hs H:Hp}{σ:L2.St}{ρ:av}{ds:List D},RE Γ B0 B1 Hs H σ ρ->aI gs ρ=some ds->aI hs ρ=some es->σ[i]?=some (some (.ref a))->
  lZ Γ i hs gs σ H (λvs H1=>∃Hs1 xs ys,aW Hs H Hs1 H1/\vs=xs++.ref a::ys/\RepL Γ Hs1 ds xs/\RepL Γ Hs1 es ys)
 |[],B0,B1,Hs,H,σ,ρ,ds,re,e,e2,hσ=>by
  cases e;exact⟨.ref a,hσ,bz hs (λvs H1 ⟨Hs1,g1,rl⟩=>⟨Hs1,[],vs,g1,rfl,.nil,rl⟩) (fO hs re e2)⟩
 |g::gs,B0,B1,Hs,H,σ,ρ,ds,re,e,e2,hσ=>by
  unfold aI at e;split at e
  ·rename_i s hs';cases z:aI gs ρ with
   |none=>rw[z] at e;cases e
   |some ds'=>
    rw[z] at e;cases e;refine⟨B0,B1,Hs,ρ,_,re,hs',λv Hs' H' g' rs=>?_⟩;obtain⟨Hs2,g2,_,rp⟩:=rs.share g';refine kd gs (λvs H2 ⟨Hs3,xs,ys,g3,ev,r1,r2⟩=>?_) (oo gs (re.grow g2) z e2 hσ);exact⟨Hs3,v::xs,ys,g2.trans g3,by rw[ev];rfl,.cons (rp.mono g3.s) r1,r2⟩
  ·cases e
end
def Kz(P:Program)(w:World)(K:Frag)(mg:Str->Option Value)(base:Heap)(Γ:Ct)(k:Nat)(x:Str)(ps:List Str)(F:MF):Prop:=
 ∃f fd,bV P w K mg base jg k f fd ps (KU Γ F)/\mg x=some (.ref f)/\PySem.W.keepIn K (.ref f)=true/\bO K fd ps []
theorem Kz.mono{P:Program}{w:World}{K:Frag}{mg:Str->Option Value}{base:Heap}{Γ:Ct}{j k:Nat}{x:Str}{ps:List Str}{F:MF}(h:Kz P w K mg base Γ j x ps F)(l:j<=k):Kz P w K mg base Γ k x ps F:=by
 obtain⟨f,fd,G,r⟩:=h;exact⟨f,fd,G.mono l,r⟩
def vQ(H:Hp)(a:Addr):Hp:=λb=>if b=a then none else H b
theorem pH{H:Hp}{a:Addr}:vQ H a a=none:=if_pos rfl
theorem ko{H:Hp}{a b:Addr}(h:b≠a):vQ H a b=H b:=if_neg h
theorem Ak{N:List Str}{xs ys:List V}{u v:V}:(L2.start N (xs++u::ys)).set xs.length (some v)=L2.start N (xs++v::ys):=by
 unfold L2.start;rw[map_append,map_append,map_cons,map_cons,append_assoc,append_assoc];have:(List.map some xs).length=xs.length:=length_map ..;rw[←this,List.set_append_right _ _ (le_refl _),sub_self];simp
theorem yL{Γ:Ct}{Hs H:Hp}{N:List Str}{a:Addr}{o:O}{ho:HO}{ds es:List D}{xs ys:List V}(sm:aB Hs H)(hs:Hs a=none)(hh:H a=some ho)(ro:cX Γ Hs a o ho)(r1:RepL Γ Hs ds xs)(r2:RepL Γ Hs es ys)(tb:aB Γ.tb Hs)(hN:ds.length<N.length):
  RE Γ Hs (vQ H a) Hs H (L2.start N (xs++.ref a::ys)) (jT N.length a o ds es):=by
 have rl:RepL Γ Hs (ds++.non::es) (xs++.non::ys):=r1.append (.cons (bc.mpr rfl) r2);have r0:=gF (N:=N) sm rl tb;have no:∀(i:Nat)(u:O),(aN N.length (ds++.non::es))[i]?≠some (some (.own u)):=λi u e=>by
  unfold aN at e;by_cases hi:i<(ds++D.non::es).length
  ·rw[getElem?_append_left (by simpa using hi),getElem?_map,getElem?_eq_getElem hi] at e
   cases e
  ·rw[getElem?_append_right (by simpa using hi),getElem?_replicate] at e
   split at e <;> cases e
 have r1':RE Γ Hs (vQ H a) Hs H (L2.start N (xs++.non::ys)) (aN N.length (ds++.non::es)):=by
  refine⟨⟨.refl _,λb u z=>?_,sm,λb u z=>.inl z⟩,r0.sh,λi u e=>absurd e (no i u),r0.apart,r0.len,r0.tb⟩;by_cases hb:b=a
  ·subst hb;rw[pH] at z;cases z
  ·rw[ko hb] at z;exact z
 have hl:ds.length<(L2.start N (xs++.non::ys)).length:=by
  rw[←r0.len];unfold aN;rw[length_append,length_map,length_append,length_cons];omega
 have r2':=r1'.setOwn (i:=ds.length) (o:=.par a o) (a:=a) (ho:=ho) hl pH hs hh ⟨rfl,ro⟩ λj u _ e=>absurd e (no j u);rw[r1.length,Ak,←r1.length] at r2';exact r2'
section
variable{P:Program}{w:World}{K:Frag}{mg:Str->Option Value}{base:Heap}{Γ:Ct}
theorem uG{Hs H Hs' H':Hp}{a:Addr}(g:aW Hs (vQ H a) Hs' H')(hs:Hs' a=none):fR a Hs H Hs' H':=
 ⟨g.s,λb u hb z=>g.h b u (by rw[ko hb];exact z),g.i,λb u z=>by
  have hb:b≠a:=aC z hs;rcases g.n b u z with y|y
  ·exact .inl y
  ·rw[ko hb] at y;exact .inr y⟩
end
theorem RE.adopt'{Γ:Ct}{B0 B1 Hs H:Hp}{σ:L2.St}{ρ:av}(r:RE Γ B0 B1 Hs H σ ρ){a:Addr}{ho:HO}(h1:Hs a=none)(h2:B1 a=none)(h4:H a=some ho)(h3:∀(i:Nat)(o:O),ρ[i]?=some (some (.own o))->σ[i]?≠some (some (.ref a))):RE Γ B0 B1 (aS Hs a ho) H σ ρ:=by
 have sm:aB Hs (aS Hs a ho):=bB h1;have sh':aB (aS Hs a ho) H:=λb u z=>by
  by_cases hb:b=a
  ·subst hb;rw[aq] at z;cases z;exact h4
  ·rw[ak hb] at z;exact r.b.i _ _ z
 refine⟨⟨r.b.s.trans sm,r.b.h,sh',λb u z=>?_⟩,λj d hj=>?_,λj u hj=>?_,r.apart,r.len,r.tb.trans sm⟩
 ·by_cases hb:b=a
  ·subst hb;exact .inr h2
  ·rw[ak hb] at z;exact r.b.n _ _ z
 ·obtain⟨v,f1,f2⟩:=r.sh j d hj;exact⟨v,f1,f2.mono sm⟩
 ·obtain⟨c,hc,f1,f2,f3,f4,f5⟩:=r.own j u hj;refine⟨c,hc,f1,f2,?_,f4,f5.mono sm⟩;rw[ak]
  ·exact f3
  ·intro z;subst z;exact h3 j u hj f1
inductive KP(Γ:Ct)(g:MP)(σ:L2.St)(H:Hp)(Q:VK):Prop
 |mk (B0 B1 Hs:Hp) (ρ:av) (d:D) (ρ':av) (re:RE Γ B0 B1 Hs H σ ρ) (e:g ρ=some (d,ρ')) (q:∀a ys ds Hs' H',aB Hs Hs'->RE Γ B0 B1 Hs' H' σ ρ'->d=.lst ds->Hs' a=none->B1 a=none->H' a=some (.lst ys)->(∀(i:Nat)(o:O),ρ'[i]?=some (some (.own o))->σ[i]?≠some (some (.ref a)))->RepL Γ Hs' ds ys->Q (.ref a) H')
theorem tM.l{Γ:Ct}{g:MP}{σ:L2.St}{H:Hp}{Q:VK}(t:tM Γ g σ H Q):KP Γ g σ H Q:=by
 obtain⟨B0,B1,Hs,ρ,d,ρ',re,e,q⟩:=t;exact⟨B0,B1,Hs,ρ,d,ρ',re,e,λa ys ds Hs' H' sm re' hd ha hb hh ap rl=>q (.ref a) (aS Hs' a (.lst ys)) H' (sm.trans (bB ha)) (re'.adopt' ha hb hh ap) (hd▸aT.mpr ⟨a,ys,rfl,.of aq,rl.mono (bB ha)⟩)⟩
section
variable{X:Cx}{Γ:Ct}{W:XW}{i:Nat}{x:Str}{px apos cpos pos pos' zpos:Pos}{k:Expr}{gk:ME}
theorem cX.dic{Hs:Hp}{a:Addr}{o:O}{ho:HO}{kvs:Tb}(h:cX Γ Hs a o ho)(e:o.core=.dic kvs):ho=.dT (Kf kvs):=by
 have h:=h.core;rw[e] at h;exact h
end
section
variable{X:Cx}{Γ:Ct}{W:XW}{st:Stmt}{e:Expr}
theorem yP:vd X Γ W st mX:=λ_ _ _ _ _ _ ⟨_,_,_,_,_,_,e,_⟩=>nomatch e
theorem n5{sts:List Stmt}:iC X Γ W sts mX:=λ_ _ _ _ _ _ ⟨_,_,_,_,_,_,e,_⟩=>nomatch e
theorem AN:PD X Γ W e Ce:=λ_ _ _ _ _ _ ⟨_,_,_,_,_,_,e,_⟩=>nomatch e
end
theorem uQ{n:Nat}:∀{ds:List D},(∀d∈ds,kJ d<=n)->dU ds<=n
 |[],_=>zero_le _
 |d::ds,h=>by
  have h1:=h d mem_cons_self;have h2:=uQ (ds:=ds) λe he=>h e (mem_cons_of_mem _ he);show max (kJ d) (dU ds)<=n;omega
theorem xK:∀(n:Nat)(d:D),okK n d=true->kJ d<=n
 |0,d,h=>by cases d <;> first|exact le_refl _|cases h
 |n+1,d,h=>by
  cases d with
  |tup ds=>
   have h:ds.all (okK n)=true:=h;have:=uQ (n:=n) (ds:=ds) λe he=>xK n e (all_eq_true.mp h e he);show dU ds+1<=n+1;omega
  |int i=>exact zero_le _
  |_=>cases h
section
variable{X:Cx}{Γ:Ct}{W:XW}{pins:List (Addr×Obj)}{σ:L2.St}{H:Hp}{s:Shared}
theorem xQ{n:Nat}(ih:∀(d:D)(v:V)(u:Value),okK n d=true->Rep Γ H d v->RelV v u->dS s.heap d u):∀{ds:List D}{vs:List V}{us:List Value},(∀d∈ds,okK n d=true)->RepL Γ H ds vs->Vals vs us->dR s.heap ds us
 |[],vs,us,_,r,q=>by
  rw[bQ.mp r] at q;cases q;exact cV.mpr rfl
 |d::ds,vs,us,h,r,q=>by
  obtain⟨x,y,rfl,r1,r2⟩:=aJ.mp r;cases q with
  |cons q1 q2=>exact bZ.mpr ⟨_,_,rfl,ih d x _ (h d mem_cons_self) r1 q1,xQ ih (λe he=>h e (mem_cons_of_mem _ he)) r2 q2⟩
theorem BI(hK:X.K=Γ.K)(I:ay X pins σ H s):∀(n:Nat)(d:D)(v:V)(u:Value),okK n d=true->Rep Γ H d v->RelV v u->dS s.heap d u
 |0,d,v,u,ok,r,q=>by
  cases d with
  |int i=>
   rw[ai.mp r] at q;obtain⟨t,rfl⟩:=q;exact d4.mpr ⟨t,rfl⟩
  |_=>cases ok
 |n+1,d,v,u,ok,r,q=>by
  cases d with
  |int i=>
   rw[ai.mp r] at q;obtain⟨t,rfl⟩:=q;exact d4.mpr ⟨t,rfl⟩
  |tup ds=>
   obtain⟨a,vs,rfl,sq,l⟩:=aF.mp r;cases q;obtain⟨its,v1,p1,_⟩:=I.tuple (by rw[hK];exact sq)
   exact dH.mpr ⟨a,its.toArray,rfl,p1,xQ (BI hK I n) (λe he=>all_eq_true.mp (show ds.all (okK n)=true from ok) e he) l v1⟩
  |_=>cases ok
theorem rS(hK:X.K=Γ.K)(I:ay X pins σ H s){d:D}{a:Addr}(ok:okT d=true)(r:Rep Γ H d (.ref a)):(j5 X.prog X.w).is s.heap d a:=by
 cases d with
 |tup ds=>exact⟨BI hK I 6 (.tup ds) (.ref a) (.ref a) ok r rfl,xK 6 (.tup ds) ok⟩
 |_=>cases ok
theorem sM{kvs:List (D×D)}{xs:List (D×Addr×Value)}(r:fP Γ H kvs xs):∀x∈xs,okT x.1=true/\Rep Γ H x.1 (.ref x.2.1):=by
 unfold fP at r
 induction r with
 |nil=>intro x hx;exact nomatch hx
 |@cons p q ps qs h t ih=>
  intro x hx;rcases mem_cons.mp hx with rfl|hx
  ·obtain⟨h1,h2,h3,_⟩:=h;exact⟨h1▸h2,h1▸h3⟩
  ·exact ih x hx
theorem vx(hK:X.K=Γ.K)(I:ay X pins σ H s){a:Addr}{kvs:List (D×D)}{xs:List (D×Addr×Value)}(e:H a=some (.ext (fU a xs)))(r:fP Γ H kvs xs):
  s.heap.DictOfH (j5 X.prog X.w) a xs/\(a == sysModules)=false/\xs.length<=sizeLine:=by
 obtain⟨⟨⟨x1,x2,x3⟩,o,es,ep,h1,h2,h3,h4⟩,_,_⟩:=(show aY X.prog X.w H s.heap a (.ext (fU a xs)) from I.hok a _ e);exact⟨⟨o,es,ep,h1,h2,h3,h4,λx hx=>rS hK I (sM r x hx).1 (sM r x hx).2,x3⟩,x1,x2⟩
theorem fP.length{kvs:List (D×D)}{xs:List (D×Addr×Value)}(r:fP Γ H kvs xs):kvs.length=xs.length:=Paired.length r
theorem fP.some_eq{kvs:List (D×D)}{xs:List (D×Addr×Value)}(r:fP Γ H kvs xs)(k:D):(fX kvs k).isSome=(atKey xs k).isSome:=by
 unfold fP at r
 induction r with
 |nil=>rfl
 |@cons p q ps qs h t ih=>
  unfold fX atKey at ih ⊢;rw[find?_cons,find?_cons,←h.1];by_cases e:p.1=k
  ·rw[decide_eq_true e];rfl
  ·rw[decide_eq_false e];exact ih
theorem fP.put{kvs:List (D×D)}{xs:List (D×Addr×Value)}(r:fP Γ H kvs xs){k d:D}{b:Addr}{v:V}{u:Value}(ok:okT k=true)(rk:Rep Γ H k (.ref b))(rv:RelV v u)(rd:Rep Γ H d v):fP Γ H (vR kvs k d) (storedH xs k b u):=by
 unfold vR storedH;rw[r.some_eq k];by_cases c:(atKey xs k).isSome=true
 ·rw[if_pos c,if_pos c];unfold fP at r ⊢;clear c
  induction r with
  |nil=>exact .nil
  |@cons p q ps qs h t ih=>
   rw[map_cons,map_cons];refine .cons ?_ ih;obtain⟨h1,h2,h3,h4⟩:=h;unfold putAt;by_cases e:p.1=k
   ·rw[if_pos e,if_pos (h1.symm.trans e)];exact⟨h1,h2,h3,v,rv,rd⟩
   ·rw[if_neg e,if_neg (λz=>e (h1.trans z))];exact⟨h1,h2,h3,h4⟩
 ·rw[if_neg c,if_neg c];exact Paired.snoc r ⟨rfl,ok,rk,v,rv,rd⟩
theorem C6{P:Program}{w:World}{H':Hp}{h:Heap}{a:Addr}{xs:List (D×Addr×Value)}(x:fU a xs h):aY P w H' h a (.ext (fU a xs)):=
 ⟨x,let ⟨_,o,_,_,e,_⟩:=x;⟨o,e⟩,λ_ _ x k=>x.stay k⟩
variable{i:Nat}{x:Str}{px apos cpos pos pos' zpos:Pos}{k:Expr}{gk:ME}
theorem cX.tab{Hs:Hp}{a:Addr}{o:O}{ho:HO}{kvs:Td}(h:cX Γ Hs a o ho)(e:o.core=.tab kvs):∃xs,ho=.ext (fU a xs)/\fP Γ Hs kvs xs:=by
 have h:=h.core;rw[e] at h;exact h
theorem yR(hN:X.N.Nodup)(hi:X.N[i]?=some x)(hx:CB X.env.scope x)(hs:swapsWith (.Dict [] [] zpos) (some (.Name x pos')) pos.line X.env=pure false:=by rfl)
  (hf:X.fn x=true\/X.env.scope.names.lookup x=some .local:=by first|exact .inl rfl|exact .inr rfl|assumption):vd X Γ W (.Assign [.Name x pos'] (.Dict [] [] zpos) pos) (An i):=
 PS.imp (vX (te:=λ_ H Q=>∀p,H p=none->Q (.ref p) (aS H p (.ext (fU p [])))) hN hi hx (λpins s σ H Q I h=>wpAny_Dict_empty ⟨.ref s.heap.objs.size,_,I.laid (a:=s.heap.objs.size) (o:=.ext (fU s.heap.objs.size [])) (t':=s.toks) (λ_ _ q=>get?_push_of_some _ q) (le_refl _)
   (C6 ⟨⟨beq_eq_false_iff_ne.mpr (Ne.symm (ne_of_lt I.big)),zero_le _,List.nodup_nil⟩,_,#[],0,get?_push_size _ rfl,⟨rfl,rfl,rfl⟩,rfl,rfl⟩),rfl,h _ (I.hok.fresh (le_refl _))⟩) hs hf) λpins s σ H En I ⟨B0,B1,Hs,ρ,o,re,eo,q⟩=>by
  cases eo;intro p hp;refine q _ Hs _ (.refl _) ((re.grow (.newOwn re.b.i hp)).setOwn (by rw[I.len];exact(List.getElem?_eq_some_iff.mp hi).1) (re.b.h.free hp) (re.b.i.free hp) aq ⟨[],rfl,.nil⟩ λj u _ hj z=>?_)
  obtain⟨c,hc,f1,_,_,f4,_⟩:=re.own j u hj;rw[z] at f1;cases f1;rw[hp] at f4;cases f4
theorem jq{B0 B1 Hs:Hp}{ρ:av}{d:D}(re:RE Γ B0 B1 Hs H σ ρ)(e:gk ρ=okD d):tD Γ W gk σ H (λv H1=>∃Hs1,aW Hs H Hs1 H1/\Rep Γ Hs1 d v):=
 ⟨B0,B1,Hs,ρ,_,re,e,λv Hs1 H1 g rs=>⟨Hs1,g,rs⟩⟩
theorem nR{n:Bool}{ρ:av}{r:R}(h:gP n i gk ρ=some r):∃o kvs d,ρ[i]?=some (some (.own o))/\o.core=.tab kvs/\gk ρ=okD d/\okT d=true/\r=.ok (.sh (.bl (n != (fX kvs d).isSome))):=by
 unfold gP at h;cases h1:fY i ρ with
 |none=>rw[h1] at h;cases h
 |some p=>
  rw[h1] at h;dsimp only[Option.bind_some] at h;obtain⟨e1,e2⟩:=fL (o:=p.1) (kvs:=p.2) h1;cases h2:uA (gk ρ) with
  |none=>rw[h2] at h;cases h
  |some d=>rw[h2] at h;cases h;obtain⟨k1,k2⟩:=pV h2;exact⟨p.1,p.2,d,e1,e2,k1,k2,rfl⟩
theorem Gg(hK:X.K=Γ.K)(hu:X.A.units+8<cLine)(hv:PE X (.Name x px) (jD i))(hk:PD X Γ W k gk):PC X .In k (.Name x px) (tD Γ W (gP false i gk))/\PC X .NotIn k (.Name x px) (tD Γ W (gP true i gk)):=by
 constructor
 ·intro pins s σ H Q I ⟨B0,B1,Hs,ρ,r,re,e,q⟩;obtain⟨o,kvs,d,hd,ec,eg,ok,rfl⟩:=nR e;refine bW (hk pins s σ H _ I (jq re eg)) λiv s1 ⟨y,H1,I1,ry,Hs1,g1,rp⟩=>?_;obtain⟨a,ho,e1,e2,e3,e4,hq⟩:=(re.grow g1).own i _ hd;obtain⟨xs,rfl,tr⟩:=hq.tab ec;refine bW (hv pins s1 σ H1 (λv H2=>v=.ref a/\H2=H1) I1 ⟨_,e1,rfl,rfl⟩) λu s2 ⟨z,H2,I2,rz,e5,e6⟩=>?_;subst e5 e6;cases rz;obtain⟨dd,lo,_⟩:=vx hK I2 e4 (tr.mono g1.i);cases d with
  |tup ds=>
   obtain⟨b,vs,rfl,sq,l⟩:=aF.mp rp;cases ry;refine wpAny_in_heap (knd:=j5 X.prog X.w) (show X.A.in1.units+6<cLine from by show X.A.units+1+6<cLine;omega) (rS hK I2 ok (rp.mono g1.i)) lo dd ⟨.bl _,H2,I2.tok _,rfl,?_⟩
   have:=q (.bl (false != (fX kvs (.tup ds)).isSome)) Hs1 H2 g1 (bH.of (az.mpr rfl));rw[Bool.false_bne,tr.some_eq] at this;exact this
  |_=>cases ok
 ·intro pins s σ H Q I ⟨B0,B1,Hs,ρ,r,re,e,q⟩;obtain⟨o,kvs,d,hd,ec,eg,ok,rfl⟩:=nR e;refine bW (hk pins s σ H _ I (jq re eg)) λiv s1 ⟨y,H1,I1,ry,Hs1,g1,rp⟩=>?_;obtain⟨a,ho,e1,e2,e3,e4,hq⟩:=(re.grow g1).own i _ hd;obtain⟨xs,rfl,tr⟩:=hq.tab ec;refine bW (hv pins s1 σ H1 (λv H2=>v=.ref a/\H2=H1) I1 ⟨_,e1,rfl,rfl⟩) λu s2 ⟨z,H2,I2,rz,e5,e6⟩=>?_;subst e5 e6;cases rz;obtain⟨dd,lo,_⟩:=vx hK I2 e4 (tr.mono g1.i);cases d with
  |tup ds=>
   obtain⟨b,vs,rfl,sq,l⟩:=aF.mp rp;cases ry;refine wpAny_notIn_heap (knd:=j5 X.prog X.w) (show X.A.in1.units+6<cLine from by show X.A.units+1+6<cLine;omega) (rS hK I2 ok (rp.mono g1.i)) lo dd ⟨.bl _,H2,I2.tok _,rfl,?_⟩
   have:=q (.bl (true != (fX kvs (.tup ds)).isSome)) Hs1 H2 g1 (bH.of (az.mpr rfl));rw[Bool.true_bne,tr.some_eq] at this;exact this
  |_=>cases ok
theorem tw(hK:X.K=Γ.K)(hu:X.A.units+8<cLine)(hv:PE X (.Name x px) (jD i))(hk:PD X Γ W k gk):sA X Γ W (.Compare k [.NotIn] [.Name x px] pos) (gP true i gk):=PT.imp (qW (Gg hK hu hv hk).2) λ_ _ _ _ _ _ t=>sT t
theorem vP{ge:ME}{ρ:av}{o:Out}(h:pF i gk ge ρ=some o):∃v u kvs d,ge ρ=okD v/\ρ[i]?=some (some (.own u))/\u.core=.tab kvs/\gk ρ=okD d/\okT d=true/\kvs.length<lim/\o=.next (ρ.set i (some (.own (u.put (.tab (vR kvs d v)))))):=by
 unfold pF at h;split at h
 ·rename_i v hv;cases h1:fY i ρ with
  |none=>rw[h1] at h;cases h
  |some p=>
   rw[h1] at h;dsimp only[Option.bind_some] at h;obtain⟨e1,e2⟩:=fL (o:=p.1) (kvs:=p.2) h1;cases h2:uA (gk ρ) with
   |none=>rw[h2] at h;cases h
   |some d=>
    rw[h2] at h;dsimp only[Option.bind_some] at h;obtain⟨hl,e⟩:=bj h;obtain⟨k1,k2⟩:=pV h2;exact⟨v,p.1,p.2,d,hv,e1,e2,k1,k2,hl,e.symm⟩
 ·cases h
theorem yQ{e:Expr}{ge:ME}(hK:X.K=Γ.K)(hu:X.A.units+8<cLine)(hv:PE X (.Name x px) (jD i))(hk:PD X Γ W k gk)(he:PD X Γ W e ge)(hs:swapsWith e (some (.Subscript (.Name x px) k pos')) pos.line X.env=pure false:=by rfl):
  vd X Γ W (.Assign [.Subscript (.Name x px) k pos'] e pos) (pF i gk ge):=by
 intro pins s σ H En I ⟨B0,B1,Hs,ρ,o,re,eo,q⟩;obtain⟨v,u,kvs,d,hge,hd,ec,hgk,ok,hl,rfl⟩:=vP eo;refine wpAny_Assign_Subscript (bW (he pins s σ H _ I (jq re hge)) λr s1 ⟨y,H1,I1,ry,Hs1,g1,rp⟩=>?_) hs;have re1:=re.grow g1;obtain⟨a,ho,e1,_,_,_,_⟩:=re1.own i _ hd;refine bW (hv pins s1 σ H1 (λv H2=>v=.ref a/\H2=H1) I1 ⟨_,e1,rfl,rfl⟩) λu2 s2 ⟨z,H2,I2,rz,e5,e6⟩=>?_;subst e5 e6;cases rz;refine bW (hk pins s2 σ H2 _ I2 (jq re1 hgk)) λiv s3 ⟨y3,H3,I3,ry3,Hs3,g3,rp3⟩=>?_;have re3:=re1.grow g3;obtain⟨a',ho,f1,f2,f3,f4,hq0⟩:=re3.own i _ hd;rw[e1] at f1;cases f1;obtain⟨xs,rfl,tr⟩:=hq0.tab ec;obtain⟨dd,lo,hz⟩:=vx hK I3 f4 (tr.mono g3.i);cases d with
 |tup ds=>
  obtain⟨b,vs,rfl,sq,l⟩:=aF.mp rp3;cases ry3;have tr':=tr.put ok rp3 ry (rp.mono g3.s);have hlen:(storedH xs (.tup ds) b r).length<=sizeLine:=by
   have h1:=tr.length;unfold storedH;split
   ·rw[length_map];exact hz
   ·rw[length_append,length_singleton,←h1];exact le_trans (show kvs.length+1<=lim from hl) (by decide)
  refine wpAny_setItem_heap (knd:=j5 X.prog X.w) (hsz:=hz) (show X.A.in1.units+6<cLine from by show X.A.units+1+6<cLine;omega) (rS hK I3 ok (rp3.mono g3.i)) dd λh' dd' hsb=>?_
  obtain⟨ob,es,ep,h1,h2,h3,h4,_,h5⟩:=dd';refine⟨σ,_,ED I3 (by rw[f4];exact True.intro) hsb ⟨ob,h1⟩ (C6 (xs:=storedH xs (.tup ds) b r) ⟨⟨lo,hlen,h5⟩,ob,es,ep,h1,h2,h3,h4⟩),?_⟩
  exact q σ Hs3 _ (g1.s.trans g3.s) (re3.write hd e1 (cX.put hq0 ⟨_,rfl,tr'⟩))
 |_=>cases ok
theorem wX{ρ:av}{r:R}(h:nQ i ρ=some r):∃o kvs,ρ[i]?=some (some (.own o))/\o.core=.tab kvs/\r=.ok (.sh (.int kvs.length)):=by
 unfold nQ at h;cases h1:fY i ρ with
 |none=>rw[h1] at h;cases h
 |some p=>
  rw[h1] at h;cases h;obtain⟨e1,e2⟩:=fL (o:=p.1) (kvs:=p.2) h1;exact⟨p.1,p.2,e1,e2,rfl⟩
theorem zU:cZ X (.builtin "len") (λys H Q=>∃a xs,ys=[.ref a]/\H a=some (.ext (fU a xs))/\Q (.int xs.length) H):=λpins s σ H ys us Q I r ⟨a,xs,ex,h,q⟩=>by
 subst ex;obtain⟨u,rfl,ru⟩:=lM r;cases ru;obtain⟨⟨⟨x1,x2,x3⟩,o,es,ep,h1,h2,h3,h4⟩,_,_⟩:=(show aY X.prog X.w H s.heap a (.ext (fU a xs)) from I.hok a _ h);have hsz:es.size=xs.length:=by rw[←length_toList,h4,length_map]
 refine GX x1 h1 h2 h3 (by rw[hsz];rw[sizeLine_eq] at x2;omega) λt tk=>?_
 rw[hsz];exact⟨.int xs.length,H,I.tok tk,⟨t,rfl⟩,q⟩
theorem xH{p:Pos}(hg:Gl X "len")(hm:X.mg "len" = none)(hv:PE X (.Name x px) (jD i))(hs:starEach [.Name x px] X.env=(false,eval (.Name x px) X.env)::starEach [] X.env:=by rfl)(hpl:(backTo pos (starEach [] X.env)).any (·.1)=false:=by rfl):
  PD X Γ W (.Call (.Name "len" p) [.Name x px] [] pos) (nQ i):=
 PE.imp (iM zU hg hm PySem.boot_len (bF hv eY hs) (by decide) (by decide) hs hpl) λ_ _ σ H Q _ ⟨B0,B1,Hs,ρ,r,re,e,q⟩=>by
  obtain⟨o,kvs,hd,ec,rfl⟩:=wX e;obtain⟨a,ho,e1,e2,e3,e4,hq⟩:=re.own i _ hd;obtain⟨xs,rfl,tr⟩:=hq.tab ec;refine⟨.ref a,e1,a,xs,rfl,e4,?_⟩;rw[←tr.length];exact q _ Hs H (.refl re.b.i) (bH.of (ai.mpr rfl))
end
def iq(tp:List (Addr×List V))(H:Hp):Hp:=λb=>match tp.lookup b with
 |some p=>some (.tup p)
 |none=>H b
theorem uw{α:Type}:∀{l:List (Addr×α)}{n:Addr},(∀p∈l,p.1≠n)->l.lookup n=none
 |[],_,_=>rfl
 | (k,v)::r,n,h=>by
  rw[lookup_cons,beq_false_of_ne (Ne.symm (h (k,v) mem_cons_self))];exact uw λp hp=>h p (mem_cons_of_mem _ hp)
theorem xP{α:Type}{c:α}:∀{ts:List Addr}{ps:List α}{j:Nat}{t:Addr},ts.Nodup->ts[j]?=some t->ps[j]?=some c->(ts.zip ps).lookup t=some c
 |[],_,_,_,_,h,_=>by simp at h
 |_::_,[],_,_,_,_,h=>by simp at h
 |f::ts,d::ps,0,t,nd,h1,h2=>by
  simp at h1 h2;subst h1;subst h2;simp[lookup_cons]
 |f::ts,d::ps,j+1,t,nd,h1,h2=>by
  have h1':ts[j]?=some t:=by simpa using h1
  have ne:(t == f)=false:=beq_false_of_ne (by rintro rfl;exact(nodup_cons.mp nd).1 (mem_of_getElem? h1'))
  rw[zip_cons_cons,lookup_cons,ne];exact xP (nodup_cons.mp nd).2 h1' (by simpa using h2)
theorem jh{ts:List Addr}{ps:List (List V)}{H:Hp}{b:Addr}(h:b∉ts):iq (ts.zip ps) H b=H b:=by
 have z:(ts.zip ps).lookup b=none:=uw λp hp e=>h (e▸(of_mem_zip (show(p.1,p.2)∈_ from hp)).1);unfold iq;rw[z]
theorem qG{ts:List Addr}{ps:List (List V)}{H:Hp}{b:Addr}{j:Nat}{p:List V}(nd:ts.Nodup)(h:ts[j]?=some b)(h2:ps[j]?=some p):iq (ts.zip ps) H b=some (.tup p):=by
 unfold iq;rw[xP nd h h2]
theorem Ff:∀(ts:List Addr),Vals (ts.map V.ref) (ts.map Value.ref)
 |[]=>.nil
 |t::ts=>.cons rfl (Ff ts)
section
variable{X:Cx}{Γ:Ct}{W:XW}{pins:List (Addr×Obj)}{σ:L2.St}{H:Hp}{s:Shared}
theorem BJ(I:ay X pins σ H s){h2:Heap}{S:Addr}{acc:Array Value}{c tk:Nat}{ts:List Addr}{ps:List (List V)}(old:∀b o,s.heap.get? b=some o->h2.get? b=some o)(fS:s.heap.objs.size<=S)(fT:∀t∈ts,S<t)(nd:ts.Nodup)(hz:ts.length<=sizeLine)(hl:ts.length=ps.length)
  (hS:h2.get? S=some {cls:=.type "list",data:=.seq acc c}) (hacc:acc.toList=ts.map Value.ref) (hp:∀(j:Nat)(b:Addr)(p:List V),ts[j]?=some b->ps[j]?=some p->p.length<=sizeLine/\∃its:List Value,Vals p its/\IsTup h2 b its.toArray):
  ay X pins σ (aS (iq (ts.zip ps) H) S (.lst (ts.map V.ref))) {s with heap:=h2,toks:=tk}:=by
 have tbig:∀t∈ts,s.heap.objs.size<=t:=λt ht=>le_trans fS (le_of_lt (fT t ht));have nS:H S=none:=I.hok.fresh fS;have nT:∀t∈ts,H t=none:=λt ht=>I.hok.fresh (tbig t ht);have at0:∀b,b∉ts->b≠S->aS (iq (ts.zip ps) H) S (.lst (ts.map V.ref)) b=H b:=λb h1 h2=>by rw[ak h2,jh h1]
 have sm:aB H (aS (iq (ts.zip ps) H) S (.lst (ts.map V.ref))):=λb o e=>by
  rw[at0 b (λhb=>by rw[nT b hb] at e;cases e) (λhb=>by rw[hb,nS] at e;cases e)];exact e
 have hok:jB X.prog X.w (aS (iq (ts.zip ps) H) S (.lst (ts.map V.ref))) h2:=λb o e=>by
  by_cases hb:b=S
  ·subst hb;rw[aq] at e;cases e;exact⟨by rw[length_map];exact hz,ts.map Value.ref,c,Ff ts,by rw[hS,←hacc]⟩
  ·by_cases hbt:b∈ts
   ·obtain⟨j,hj⟩:=List.mem_iff_getElem?.mp hbt;have hjl:j<ps.length:=by rw[←hl];exact(List.getElem?_eq_some_iff.mp hj).1
    have hpj:ps[j]?=some ps[j]:=getElem?_eq_getElem hjl;rw[ak hb,qG nd hj hpj] at e;cases e;obtain⟨z1,its,z2,z3⟩:=hp j b _ hj hpj;exact⟨z1,its,z2,z3⟩
   ·rw[at0 b hbt hb] at e;exact(I.hok b o e).stay (λd v _ z=>old d v z) (λd z=>sm _ _ z) (λd ws z=>sm _ _ z) λd ob v z=>sm _ _ z
 exact I.un (t':=tk) ⟨λb o e _ _ _=>old b o e,λb o e _ _ _=>⟨o.slots,old b o e⟩,λb o e n _=>by
   have hb:=lt_size e;rw[at0 b (λhm=>absurd (lt_of_lt_of_le hb (tbig b hm)) (lt_irrefl _)) (λhm=>absurd (lt_of_lt_of_le hb (hm▸fS)) (lt_irrefl _))];exact n,λb o e _=>⟨o,old b o e⟩,λb ws e=>sm _ _ e,λb o z e=>sm _ _ e,λb ps e=>⟨#[],by rw[sm _ _ e];simp⟩⟩ hok
theorem pG{H:Hp}:∀{kvs:List (D×D)}{ps:List (List V)}{ts:List Addr},kvs.length=ps.length->ts.length=ps.length->(∀(j:Nat)(p:D×D)(q:List V),kvs[j]?=some p->ps[j]?=some q->∃x y,q=[x,y]/\Rep Γ H p.1 x/\Rep Γ H p.2 y)->(∀(j:Nat)(t:Addr)(q:List V),ts[j]?=some t->ps[j]?=some q->H t=some (.tup q))->
  RepL Γ H (kvs.map λq=>D.tup [q.1,q.2]) (ts.map V.ref)
 |[],ps,ts,h1,h2,_,_=>by
  cases ps with
  |nil=>
   cases ts with
   |nil=>exact .nil
   |cons _ _=>simp at h2
  |cons _ _=>simp at h1
 |p::kvs,ps,ts,h1,h2,h3,h4=>by
  cases ps with
  |nil=>simp at h1
  |cons q ps=>
   cases ts with
   |nil=>simp at h2
   |cons t ts=>
    obtain⟨x,y,rfl,r1,r2⟩:=h3 0 p q rfl rfl;exact .cons (aF.mpr ⟨t,[x,y],rfl,.inl (.inl (h4 0 t _ rfl rfl)),.cons r1 (.cons r2 .nil)⟩) (pG (by simpa using h1) (by simpa using h2) (λj p' q' a b=>h3 (j+1) p' q' (by simpa using a) (by simpa using b)) λj t' q' a b=>h4 (j+1) t' q' (by simpa using a) (by simpa using b))
theorem yw{kvs:List (D×D)}{xs:List (D×Addr×Value)}(r:fP Γ H kvs xs):∃ps:List (List V),ps.length=xs.length/\∀(j:Nat)(q:List V),ps[j]?=some q->∃(k:D)(a:Addr)(u:Value)(v:V)(p:D×D),xs[j]?=some (k,a,u)/\kvs[j]?=some p/\q=[.ref a,v]/\RelV v u/\Rep Γ H p.1 (.ref a)/\Rep Γ H p.2 v:=by
 unfold fP at r
 induction r with
 |nil=>exact⟨[],rfl,λj q h=>by simp at h⟩
 |@cons p x ps' xs' h t ih=>
  obtain⟨ps,hl,hp⟩:=ih;obtain⟨h1,h2,h3,v,h4,h5⟩:=h;refine⟨[.ref x.2.1,v]::ps,by rw[length_cons,length_cons,hl],λj q hq=>?_⟩
  cases j with
  |zero=>cases hq;exact⟨x.1,x.2.1,x.2.2,v,p,rfl,rfl,rfl,h4,h3,h5⟩
  |succ j=>
   obtain⟨k,a,u,v',p',z1,z2,z3⟩:=hp j q (by simpa using hq)
   exact⟨k,a,u,v',p',by simpa using z1,by simpa using z2,z3⟩
theorem uN{i:Nat}{ρ:av}{r:R}(h:lG i ρ=some r):∃o kvs,ρ[i]?=some (some (.own o))/\o.core=.tab kvs/\r=.ok (.own (.lst (kvs.map λq=>D.tup [q.1,q.2]))):=by
 unfold lG at h;cases h1:fY i ρ with
 |none=>rw[h1] at h;cases h
 |some p=>
  rw[h1] at h;cases h;obtain⟨e1,e2⟩:=fL (o:=p.1) (kvs:=p.2) h1;exact⟨p.1,p.2,e1,e2,rfl⟩
theorem uZ:bootBuiltins "list" = some (.type "list"):=by decide +kernel
theorem yY{i:Nat}{x:Str}{px p apos cpos pos:Pos}(hc:X.calm=true)(hg:Gl X "list")(hm:X.mg "list" = none)(hv:PE X (.Name x px) (jD i))
  (hbase:attributeBase (.Name x px) "items" X.env (eval (.Name x px) X.env)=eval (.Name x px) X.env:=by rfl) (hline:(apos.endLine == cpos.line)=true:=by rfl)
  (hs3:starEach [.Call (.Attribute (.Name x px) "items" apos) [] [] cpos] X.env=(false,eval (.Call (.Attribute (.Name x px) "items" apos) [] [] cpos) X.env)::starEach [] X.env:=by rfl) (hs0:starEach [] X.env=[]:=by rfl) (hpl2:(backTo pos (starEach [] X.env)).any (·.1)=false:=by rfl):
  PD X Γ W (.Call (.Name "list" p) [.Call (.Attribute (.Name x px) "items" apos) [] [] cpos] [] pos) (lG i):=by
 intro pins s σ H Q I ⟨B0,B1,Hs,ρ,r,re,e,q⟩;obtain⟨o,kvs,hd,ec,rfl⟩:=uN e;obtain⟨a,ho,e1,e2,e3,e4,hq⟩:=re.own i _ hd;obtain⟨xs,rfl,tr⟩:=hq.tab ec;refine wpAny_Call_Name_kw (iX I hg hm uZ (PyProof.Rows.callWith_type1 ?_ hs3 hpl2) (by decide) (by decide))
 rw[hs3];show wpAny _ _ (spliced ((false,eval (.Call (.Attribute (.Name x px) "items" apos) [] [] cpos) X.env)::backTo pos (starEach [] X.env))) _ _ s;refine Calls.spliced_cons (wpAny_Call_method0_late hbase hline (bW (hv pins s σ H (λv H2=>v=.ref a/\H2=H) I ⟨_,e1,rfl,rfl⟩) λu s1 ⟨z,H1,I1,rz,z5,z6⟩=>?_));subst z5 z6;cases rz;obtain⟨⟨⟨x1,x2,x3⟩,ob,es,ep,h1,h2,h3,h4⟩,_,_⟩:=(show aY X.prog X.w H1 s1.heap a (.ext (fU a xs)) from I1.hok a _ e4);have hsz:es.size=xs.length:=by rw[←length_toList,h4,length_map]
 refine⟨"dict","dict.items",PySem.F.plainAttrs_dict,PySem.F.slot_dict_items,PySem.F.type_dict_items,⟨ob,h1,h2.1⟩,λb zb=>by cases zb;exact⟨ob,h1,h2.2.1⟩,Calls.callWith_builtin rfl (PySem.evalArgs_none (Ex x1 h1 h2 ?_))⟩
 rw[hs0];refine Calls.spliced_nil ?_;have h1':(s1.heap.push {cls:=.type "dict_items",data:=.fields #[.ref a]}).get? a=some ob:=get?_push_of_some _ h1;refine EC (s:={s1 with heap:=s1.heap.push {cls:=.type "dict_items",data:=.fields #[.ref a]}}) (I1.ok.hd hc) ⟨_,get?_push_size _ rfl,rfl,rfl⟩ h1' h3 (by rw[hsz];exact x2) λh' tk acc c ts hk hS hl hG hacc=>?_
 have hS:h'.get? (s1.heap.objs.size+1)=some {cls:=.type "list",data:=.seq acc c}:=by rw[←size_push];exact hS
 have hG:DG es (s1.heap.objs.size+1) h' ts:=by rw[←size_push];exact hG
 obtain⟨ps,hpl,hps⟩:=yw tr;have nd:ts.Nodup:=hG.rise.imp λh=>ne_of_lt h;have hlt:ts.length=ps.length:=by rw[hpl,hl,hsz]
 have I2:=BJ (tk:=tk) I1 (λb o e=>hk b o (get?_push_of_some _ e)) (le_succ _) hG.above nd (by rw[hl,hsz];exact x2) hlt hS hacc λj b p hj hpj=>by
  obtain⟨k,a',u,v,kv,z1,z2,rfl,z4,_⟩:=hps j p hpj;obtain⟨e',g1,g2⟩:=hG.pairs j b hj;have ee:e'=⟨uF k,.ref a',u⟩:=by
   have:es.toList[j]?=some e':=by rw[getElem?_toList];exact g1
   rw[h4,getElem?_map,z1] at this;exact(Option.some.inj this).symm
  subst ee;exact⟨by show 2<=sizeLine;decide,[.ref a',u],.cons rfl (.cons z4 .nil),⟨_,g2,rfl,_,rfl⟩⟩
 have fT:∀t∈ts,H1 t=none:=λt ht=>I1.hok.fresh (le_trans (le_succ _) (le_of_lt (hG.above t ht)));have fS:H1 (s1.heap.objs.size+1)=none:=I1.hok.fresh (le_succ _);have SN:s1.heap.objs.size+1∉ts:=λhm=>absurd (hG.above _ hm) (lt_irrefl _);have sm:=re.b.i;have smP:∀G:Hp,(∀t∈ts,G t=none)->aB G (iq (ts.zip ps) G):=λG hG b o e=>by rw[jh λhm=>by rw[hG b hm] at e;cases e];exact e
 have hsN:∀t∈ts,Hs t=none:=λt ht=>sm.free (fT t ht);have sS:=smP Hs hsN;have sH:=smP H1 fT;have fS2:iq (ts.zip ps) H1 (s1.heap.objs.size+1)=none:=by rw[jh SN];exact fS
 have fSs:iq (ts.zip ps) Hs (s1.heap.objs.size+1)=none:=by rw[jh SN];exact sm.free fS
 refine⟨.ref (s1.heap.objs.size+1),_,I2,by rw[size_push];rfl,q (.ref (s1.heap.objs.size+1)) (iq (ts.zip ps) Hs) _ ⟨sS,sH.trans (bB fS2),λb o z=>?_,λb o z=>?_⟩ (Ht.mk _ _ rfl fS fSs aq ⟨_,rfl,pG (by rw[hpl,←tr.length]) hlt (λj p' q' h1 h2=>?_) λj t q' h1 h2=>qG nd h1 h2⟩)⟩
 ·rw[ak (aC z fSs)];by_cases hb:b∈ts
  ·obtain⟨j,hj⟩:=List.mem_iff_getElem?.mp hb;have hpj:ps[j]?=some (ps[j]'(by rw[←hlt];exact(List.getElem?_eq_some_iff.mp hj).1)):=getElem?_eq_getElem _
   rw[qG nd hj hpj] at z ⊢;exact z
  ·rw[jh hb] at z ⊢;exact sm _ _ z
 ·by_cases hb:b∈ts
  ·exact .inr (fT b hb)
  ·rw[jh hb] at z;exact .inl z
 ·obtain⟨k,a',u,v,kv,z1,z2,rfl,z4,z5,z6⟩:=hps j q' h2;rw[h1] at z2;cases z2;exact⟨_,_,rfl,z5.mono sS,z6.mono sS⟩
end
structure Kx(K:Frag)(x:Str)(st:Stmt)(n:Int)(f:Addr)(fd:FuncData):Prop where
 ex:∃(oc:Value)(od:Option Addr)(dV kV doc pm:Value)(an:Option Addr)(cdv ct:Value)(osl:Array (Option Value)),
  fd=fnOf x x (aw st) (ao st) (a9 st) dV kV doc pm an cdv ct/\K.lookup f=some ⟨oc,od,.func fd,osl⟩/\codeIn K cdv x=true
 kp:PySem.W.keepIn K (.ref f)=true
structure ma(K:Frag)(mg:Str->Option Value)(x:Str)(st:Stmt)(ps:List Str)(n:Int):Prop where
 ex:∃f fd t,Kx K x st n f fd/\mg x=some (.ref f)/\bO K fd ps []/\bO K fd ps [.int n t]
def Jt(P:Program)(w:World)(K:Frag)(mg:Str->Option Value)(base:Heap)(Γ:Ct)(k:Nat)(x:Str)(ps:List Str)(F:List D->Option R)(n:Int):Prop:=
 ∃f fd t,bV P w K mg base jg k f fd ps (A0 Γ W0 F)/\mg x=some (.ref f)/\PySem.W.keepIn K (.ref f)=true/\bO K fd ps []/\bO K fd ps [.int n t]
section
variable{P:Program}{w:World}{K:Frag}{mg:Str->Option Value}{base:Heap}{Γ:Ct}
theorem Jt.all{k:Nat}{x:Str}{ps:List Str}{F:List D->Option R}{n:Int}(h:Jt P w K mg base Γ k x ps F n):cY P w K mg base Γ k x ps F:=by
 obtain⟨f,fd,t,G,hm,hk,hb,_⟩:=h;exact⟨f,fd,G,hm,hk,hb⟩
theorem nF{h:Heap}(X:K.In h)(G:h.Ns mainGlobals mg){x:Str}{st:Stmt}{ps:List Str}{n:Int}{f td:Addr}{oc tc:Value}{od an te:Option Addr}{osl ts:Array (Option Value)}{kV doc pm cdv ct:Value}{tn:Nat}{tt:Tok}(a:PySem.W.nsIn K mainGlobals x=some (some (.ref f)))
  (l:K.lookup f=some ⟨oc,od,.func (fnOf x x (aw st) (ao st) (a9 st) (.ref td) kV doc pm an cdv ct),osl⟩) (c:codeIn K cdv x=true) (k:PySem.W.keepIn K (.ref f)=true) (t:K.lookup td=some ⟨tc,te,.seq #[.int n tt] tn,ts⟩)
  (hb:∀(kV doc pm:Value)(an:Option Addr)(cdv ct:Value)(us:List Value),us.length=ps.length->∃q,bindArgs (fnOf x x (aw st) (ao st) (a9 st) (.ref td) kV doc pm an cdv ct) ⟨us,[]⟩=(seqItems? (.ref td) >>= q)/\q (some #[.int n tt])=pure (ps.zip us))
  (hb2:∀(kV doc pm:Value)(an:Option Addr)(cdv ct:Value)(us:List Value),us.length+1=ps.length->∃q,bindArgs (fnOf x x (aw st) (ao st) (a9 st) (.ref td) kV doc pm an cdv ct) ⟨us,[]⟩=(seqItems? (.ref td) >>= q)/\q (some #[.int n tt])=pure (ps.zip (us++[.int n tt]))):ma K mg x st ps n:=by
 refine⟨f,_,tt,⟨⟨oc,od,.ref td,kV,doc,pm,an,cdv,ct,osl,rfl,l,c⟩,k⟩,mg_of X G a,λs us hK hl=>?_,λs us hK hl=>?_⟩
 ·rw[append_nil] at hl ⊢;obtain⟨q,h1,h2⟩:=hb kV doc pm an cdv ct us hl;exact .of_defaults rfl (hK td _ t) rfl h1 h2
 ·rw[length_append,length_singleton] at hl;obtain⟨q,h1,h2⟩:=hb2 kV doc pm an cdv ct us hl;exact .of_defaults rfl (hK td _ t) rfl h1 h2
end
end L3
namespace L2
open PySem PySem.Spec PyProof.Rows
section
variable{prog:Program}{w:World}{A:Around}{E:Value->Shared->Prop}{h:Heap}{g:Array GenState}{d:Drawn}{t:Nat}{os:OsState}{C fI:Addr}{bmB:List Value}{B nid iid:String}
structure xh(h:Heap)(C fI:Addr)(bmB:List Value)(nid:String):Prop where
 ex:∃nm q N bs bm hd sn sub ab col dd k0 k1 k2 k3 k5 mN oI,h.get? C=some (excClassObj nm q C N bs bm hd sn sub ab col dd k0 k1 k2 k3 k5 nid)/\h.Ns N mN/\mN "__init__" = some (.ref fI)/\h.get? fI=some oI/\oI.cls=.type "function" /\ OwnTail h bmB bm
theorem xh.keeps{h':Heap}(X:xh h C fI bmB nid)(k:∀b o,h.get? b=some o->h'.get? b=some o):xh h' C fI bmB nid:=by
 obtain⟨nm,q,N,bs,bm,hd,sn,sub,ab,col,dd,k0,k1,k2,k3,k5,mN,oI,e1,e2,e3,e4,e5,e6⟩:=X;exact⟨nm,q,N,bs,bm,hd,sn,sub,ab,col,dd,k0,k1,k2,k3,k5,mN,oI,k _ _ e1,e2.keeps k,e3,k _ _ e4,e5,e6.keeps k⟩
theorem CM(F:ExcBaseFacts B nid iid bmB)(X:xh h C fI bmB nid){us:List Value}{Q:Fin->Shared->Prop}(hu:us.length<=sizeLine)
  (hq:∀h' e,Heap.MadeExcOf h h' e (.ref C) us->h.objs.size<=e->wpAny (model prog w) A (call (.ref fI) (.ref e::us)) (λr s'=>r=.none/\Q (.done (.ret (.ref e))) s') E ⟨h',g,d,t,os⟩):
  wpAny (model prog w) A (Builtin.«type.__call__» ⟨.ref C::us,[]⟩) Q E ⟨h,g,d,t,os⟩:=by
 obtain⟨nm,q,N,bs,bm,hd,sn,sub,ab,col,dd,k0,k1,k2,k3,k5,mN,oI,hC,hn,hi,hf,hfc,T⟩:=X
 repeat (first|(with_reducible refine wpAny_loadPart_at hC ?_)|(with_reducible refine wpAny_madeBy_exc hC ?_)|wp_step)
 refine codeAny_call_builtin_code (Code.quiet_builtin _ F.quiet) (wpAny_check_new_subT F T hC (codeAny_exc_new_subT F T hC ?_ hu));show wpAny _ _ _ _ _ _;have up:∀b o,h.get? b=some o->((h.push {cls:=.type "tuple",data:=.seq us.toArray}).push {cls:=.ref C,data:=.fields #[.ref h.objs.size,.none,.none,.none,.bool false,.none]}).get? b=some o:=λb o z=>get?_push_of_some _ (get?_push_of_some _ z);have he:((h.push {cls:=.type "tuple",data:=.seq us.toArray}).push {cls:=.ref C,data:=.fields #[.ref h.objs.size,.none,.none,.none,.bool false,.none]}).get? (h.objs.size+1)=some {cls:=.ref C,data:=.fields #[.ref h.objs.size,.none,.none,.none,.bool false,.none]}:=by heap_get
 have hc:(Value.ref C::bm).contains (.ref C)=true:=by simp
 unfold isInstance
 repeat (first|(with_reducible refine wpAny_loadPart_at he ?_)|(with_reducible refine wpAny_isSubtype_exc (up _ _ hC) ?_;rw[hc])|wp_step)
 show wpAny _ _ (typeLookup (.ref C) _) _ _ _;refine wpAny_typeLookup_tail (up _ _ hC) (hn.keeps up) (T.keeps up) F.mroIs F.init.lookup ?_;rw[hi];refine wpAny_holding (wpAny_bind ?_);unfold bindSpecial;refine wpAny_bind (wpAny_typeOf (T := "function") ⟨_,up _ _ hf,hfc⟩ ?_);rw[if_pos (by decide)]
 refine wpAny_pure (wpAny_bind (wpAny_mono (hq _ (h.objs.size+1) ⟨up,get?_none_of_le (le_succ _),h.objs.size,he,get?_none_of_le (le_refl _),get?_push_of_some _ (Heap.get?_push_at rfl rfl)⟩ (le_succ _)) (λr s' ⟨z,y⟩=>?_) λ_ _ z=>z));subst z
 wp_walk
 exact y
theorem FJ(F:ExcBaseFacts B nid iid bmB)(X:xh h C fI bmB nid){us:List Value}{Q:Value->Shared->Prop}(hu:us.length<=sizeLine)
  (hq:∀h' e,Heap.MadeExcOf h h' e (.ref C) us->h.objs.size<=e->wpAny (model prog w) (A.under (.builtin "type.__call__" ⟨.ref C::us,[]⟩)) (call (.ref fI) (.ref e::us)) (λr s'=>r=.none/\Q (.ref e) s') E ⟨h',g,d,t,os⟩):
  wpAny (model prog w) A (call (.ref C) us) Q E ⟨h,g,d,t,os⟩:=by
 have X':=X;obtain⟨nm,q,N,bs,bm,hd,sn,sub,ab,col,dd,k0,k1,k2,k3,k5,mN,oI,hC,_⟩:=X';have f1:=tc_lookup;have f2:=tc_bind (.ref C);have hT:(⟨h,g,d,t,os⟩:Shared).TypeIs (.ref C) "type" := ⟨_,hC,rfl⟩;refine wpAny_call (codeAny_of_tree ?_);show wpAny _ _ (callAny (.ref C) _) _ _ _
 repeat (any_goals (first|assumption|(with_reducible refine wpAny_loadPart_at hC ?_)|wp_step))
 exact⟨rfl,codeAny_call_builtin_at (Code.quiet_builtin _ (by decide +kernel)) entry_typeCall (wpAny_check_type_call_sub hC (CM F X hu hq))⟩
end
section
variable{M:Model}{A:Around}{E:Value->Shared->Prop}{s:Shared}{base:Heap}{env:Env}{outer l:List Env}{L e:Addr}{cls:Value}{dx:Option Addr}{fl head:Value}{had:Bool}{Q:Unit->Shared->Prop}
def Tr(h base:Heap)(e:Addr)(cls:Value)(dx:Option Addr)(fl:Value):Prop:=
 ∃oe vs T oT ts,h.get? e=some oe/\(oe.cls=cls/\oe.dict=dx)/\oe.data=.fields vs/\vs[1]?=some (.ref T)/\base.get? T=none/\T≠e/\h.get? T=some oT/\oT.data=.fields ts/\ts[3]?=some fl
structure xm(base:Heap)(l:List Env)(e:Addr)(cls:Value)(dx:Option Addr)(fl:Value)(h:Heap):Prop where
 st:base.StaysIn h
 nw:base.get? e=none
 fr:h.FunFrames base l
 tr:Tr h base e cls dx fl
theorem Bj(o:Obj)(f:Array Value->Array Value):(Obj.mapFields f o).dict=o.dict:=by unfold Obj.mapFields;split <;> rfl
theorem xo{oe:Obj}{vs:Array Value}(hA:A.frames=some (env::outer))(hl:s.heap.FunFrames base (env::outer))(hf:env.frame=some L)(he:s.heap.get? e=some oe)(hb:base.StaysIn s.heap)(hn:base.get? e=none)(hd:oe.data=.fields vs)(hz:1<vs.size)
  (h:∀h',xm base (env::outer) e oe.cls oe.dict (rawInt L) h'->s.heap.UpToSlots h'->Q () {s with heap:=h'}):
  wpAny M A (do let a ←frameOf env;let pl ←entryPlaceOf L had;let b ←EntryCells.newEntry head a .none (rawInt L) .none pl;setField (.ref e) 1 b) Q E s:=by
 have no:e∉(env::outer).filterMap (·.frame):=λhm=>by
  obtain⟨_,o,ho,z⟩:=hl.mem hm;rw[he] at ho;cases ho;exact z vs hd
 refine wpAny_bind (wpAny_frameOf_fun hA hl hf λh1 hs=>wpAny_bind (wpAny_entryPlaceOf λpl hpl=>?_));unfold EntryCells.newEntry newFields;refine wpAny_bind (wpAny_newObj_type ?_ (hpl.sizeOk5 _ _ _ _ _));have e1:h1.get? e=some oe:=(hs.2.1 e no).trans he;have b1:base.StaysIn h1:=λb o z=>(hs.2.1 b λhm=>by rw[(hl.mem hm).1] at z;cases z).trans (hb b o z)
 generalize hob:({cls:=.type "traceback",dict:=none,data:=.fields ([head,.ref L,.none,rawInt L,.none]++(if pl.isEmpty then replicate 6 Value.none else pl)).toArray}:Obj)=ob;have e2:=get?_push_of_some (h:=h1) ob e1;refine wpAny_setField e2 hd hz (h _ ?_ ?_)
 all_goals
  have Te:h1.objs.size≠e:=ne_of_gt (lt_size e1);have keep:∀b o,b≠e->h1.get? b=some o->((h1.push ob).update e (Obj.mapFields (·.setIfInBounds 1 (Value.ref h1.objs.size)))).get? b=some o:=λb o hbe hb=>by
   rw[get?_update_other _ _ (Ne.symm hbe)];exact get?_push_of_some _ hb
  have nr:∀b o,s.heap.get? b=some o->(∀vs,o.data≠.fields vs)->b≠e:=λb o hb z q=>by
   rw[q,he] at hb;cases hb;exact z vs hd
 ·have d3:=Obj.data_mapFields hd (·.setIfInBounds 1 (Value.ref h1.objs.size));have T3:=(get?_update_other (h1.push ob) (Obj.mapFields (·.setIfInBounds 1 (Value.ref h1.objs.size))) (Ne.symm Te)).trans (get?_push_size h1 (by rw[←hob];rfl))
  refine⟨λb o z=>keep b o (λq=>by rw[q,hn] at z;cases z) (b1 b o z),hn,hl.of_keeps λb o hb z=>?_,_,_,h1.objs.size,ob,_,get?_update_self _ e2 (Obj.isFreed_of_fields d3),⟨Obj.cls_mapFields _ _,Bj _ _⟩,d3,by simp[hz],b1.fresh,Te,T3,by rw[←hob],?_⟩
  ·obtain⟨sl,q⟩:=hs.2.2 b o hb;exact⟨_,keep b _ (nr b o hb z) q,rfl⟩
  ·first|(simp;done)|(rcases hpl with rfl|⟨_,_,_,_,_,_,_,rfl⟩ <;> simp)
 ·intro b o hb z;obtain⟨sl,q⟩:=hs.2.2 b o hb;exact⟨sl,keep b _ (nr b o hb z) q⟩
theorem qD(F:xm base l e cls dx fl s.heap)(h:∀h',xm base l e cls dx .none h'->s.heap.UpToSlots h'->Q () {s with heap:=h'}):wpAny M A (setFlight (.ref e) none) Q E s:=by
 obtain⟨hb,hn,hl,oe,vs,T,oT,ts,he,hc,hd,h1,hT,Te,hT2,hdT,h3⟩:=F;have z3:3<ts.size:=(Array.getElem?_eq_some_iff.mp h3).1;have other:∀b,b≠T->(s.heap.update T (Obj.mapFields (·.setIfInBounds 3 ((none:Option Addr).elim Value.none λf=>rawInt f)))).get? b=s.heap.get? b:=λb z=>get?_update_other _ _ (Ne.symm z);have nr:∀b o,s.heap.get? b=some o->(∀vs,o.data≠.fields vs)->b≠T:=λb o z y q=>by rw[q,hT2] at z;cases z;exact y ts hdT
 unfold setFlight;refine wpAny_bind (wpAny_field he hd h1 ?_);rw[if_pos (show(Value.ref T != Value.none)=true from by simp)]
 refine wpAny_setField hT2 hdT z3 (h _ ⟨λb o z=>(other b λq=>by rw[q,hT] at z;cases z).trans (hb b o z),hn,hl.of_keeps λb o z y=>⟨o,(other b (nr b o z y)).trans z,rfl⟩,oe,vs,T,_,_,(other e (Ne.symm Te)).trans he,hc,hd,h1,hT,Te,get?_update_self _ hT2 (Obj.isFreed_of_fields (Obj.data_mapFields hdT _)),Obj.data_mapFields hdT _,by simp[z3]⟩ λb o z y=>⟨o.slots,(other b (nr b o z y)).trans z⟩)
theorem CP{oe:Obj}{vs:Array Value}(hA:A.frames=some (env::outer))(hl:s.heap.FunFrames base (env::outer))(hf:env.frame=some L)(he:s.heap.get? e=some oe)(hb:base.StaysIn s.heap)(hn:base.get? e=none)(hd:oe.data=.fields vs)(h1:vs[1]?=some .none)
  (h:∀h',xm base (env::outer) e oe.cls oe.dict (rawInt L) h'->s.heap.UpToSlots h'->Q () {s with heap:=h'}):wpAny M A (noteFrame (.ref e) env) Q E s:=by
 unfold noteFrame;simp only[hf];refine wpAny_bind (wpAny_field he hd h1 ?_);rw[if_neg (by decide)]
 exact xo hA hl hf he hb hn hd (Array.getElem?_eq_some_iff.mp h1).1 h
theorem xn(hA:A.frames=some (env::outer))(hf:env.frame=some L)(F:xm base (env::outer) e cls dx .none s.heap)(h:∀h',xm base (env::outer) e cls dx (rawInt L) h'->s.heap.UpToSlots h'->Q () {s with heap:=h'}):wpAny M A (noteFrame (.ref e) env) Q E s:=by
 obtain⟨hb,hn,hl,oe,vs,T,oT,ts,he,⟨rfl,rfl⟩,hd,h1,hT,Te,hT2,hdT,h3⟩:=F;have other:∀b,b≠T->(s.heap.update T (Obj.mapFields (·.setIfInBounds 3 Value.none))).get? b=s.heap.get? b:=λb z=>get?_update_other _ _ (Ne.symm z);have nr:∀b o,s.heap.get? b=some o->(∀vs,o.data≠.fields vs)->b≠T:=λb o z y q=>by rw[q,hT2] at z;cases z;exact y ts hdT
 unfold noteFrame;simp only[hf];refine wpAny_bind (wpAny_field he hd h1 ?_);rw[if_pos (show(Value.ref T != Value.none)=true from by simp)]
 refine wpAny_bind (wpAny_field hT2 hdT h3 ?_);rw[if_neg (show ¬((Value.none == rawInt L)=true) from by simp[rawInt])]
 refine wpAny_bind (wpAny_setField hT2 hdT (Array.getElem?_eq_some_iff.mp h3).1 ?_);exact xo hA (hl.of_keeps λb o z y=>⟨o,(other b (nr b o z y)).trans z,rfl⟩) hf ((other e (Ne.symm Te)).trans he) (λb o z=>(other b λq=>by rw[q,hT] at z;cases z).trans (hb b o z)) hn hd (Array.getElem?_eq_some_iff.mp h1).1
  λh' x u=>h h' x λb o z y=>u b o ((other b (nr b o z y)).trans z) y
theorem CO(hf:env.frame=some L)(F:xm base l e cls dx (rawInt L) s.heap)(h:Q () s):wpAny M A (noteFrame (.ref e) env) Q E s:=by
 obtain⟨hb,hn,hl,oe,vs,T,oT,ts,he,hc,hd,h1,hT,Te,hT2,hdT,h3⟩:=F;unfold noteFrame;simp only[hf];refine wpAny_bind (wpAny_field he hd h1 ?_);rw[if_pos (show(Value.ref T != Value.none)=true from by simp)]
 refine wpAny_bind (wpAny_field hT2 hdT h3 ?_);rw[if_pos (show(rawInt L == rawInt L)=true from by simp)]
 exact wpAny_pure h
theorem xm.pop{h:Heap}(F:xm base (env::outer) e cls dx fl h):xm base outer e cls dx fl h:=⟨F.st,F.nw,F.fr.2.2,F.tr⟩
end
end L2
namespace L2
open PySem PySem.Spec PyProof.Rows PySem.W
def Aa(bm:List Value):List Value->Bool
 |[]=>bm == []
 |v::r=>(v::r) == bm || match v with|.ref _=>Aa bm r|_=>false
theorem gV{bm:List Value}{x:Value}(hx:bm.contains x=true):∀{l:List Value},Aa bm l=true->l.contains x=true
 |[],e=>by rw[beq_iff_eq.mp e] at hx;exact hx
 |v::r,e=>by
  unfold Aa at e;rcases Bool.or_eq_true_iff.mp e with q|q
  ·rw[beq_iff_eq.mp q];exact hx
  ·split at q
   ·rw[List.contains_cons,gV hx q,Bool.or_true]
   ·cases q
theorem mZ{bm:List Value}{B sa ow:String}(SF:StoreFacts B bm sa ow)(self:Value):∀{l:List Value},Aa bm l=true->refuseLoop self "__setattr__" l=pure ()
 |[],e=>by have:=SF.passes self;rw[beq_iff_eq.mp e] at this;exact this
 |v::r,e=>by
  unfold Aa at e;rcases Bool.or_eq_true_iff.mp e with q|q
  ·rw[beq_iff_eq.mp q];exact SF.passes self
  ·split at q
   ·rw[refuseLoop_ref];exact mZ SF self q
   ·cases q
section
variable{prog:Program}{w:World}{A:Around}{E:Value->Shared->Prop}{s:Shared}{K:Frag}{C e:Addr}{oe:Obj}{vs:Array Value}{cd:ClassData}{name:Str}{v:Value}{bm:List Value}{B ow:String}
theorem HL{Q:Unit->Shared->Prop}(X:K.In s.heap)(hx:s.heap.get? e=some oe)(hc:oe.cls=.ref C)(hd:oe.dict=none)(hv:oe.data=.fields vs)(hC:clsIn K C=some cd)(hh:cd.hasDict=true)
  (SF:StoreFacts B bm "object.__setattr__" "object") (ht:Aa bm cd.mro=true) (hs:findIn K (.ref C) "__setattr__" = some (some (.builtin "object.__setattr__"))) (hn:findIn K (.ref C) name=some none)
  (h:∀h',h'.get? e=some {oe with dict:=some s.heap.objs.size}->h'.Ns1 s.heap.objs.size (λy=>if y=name then some v else none)->(∀b o,b≠e->s.heap.get? b=some o->h'.get? b=some o)->Q () {s with heap:=h',toks:=s.toks+2}):
  wpAny (model prog w) A (setAttr (.ref e) name v) Q E s:=by
 have I:InstAt s.heap e oe C none:=⟨hx,hc,by unfold notCls;rw[hv],by rw[hd];trivial⟩
 refine set_plain X I hs ?_;have ne:cd.mro.isEmpty=false:=by
  have:=gV SF.hasOwner ht;cases q:cd.mro with
  |nil=>rw[q] at this;cases this
  |cons _ _=>rfl
 have sub:Looks (model prog w) s.heap (isInstance (.ref e) (.type "object")) true:=I.type.andThen (looks_mroIn X (by unfold mroIn;rw[hC,Option.bind_some,if_neg (by rw[ne];decide),gV SF.hasOwner ht]))
 refine codeAny_call_builtin SF.slot.plain SF.entry (@check_slot (model prog w) _ _ {s with toks:=s.toks+1} "object.__setattr__" "object" "__setattr__" (.ref e) [.str name s.toks,v] [] _ SF.kind SF.split sub (SF.args (.ref e) (.str name s.toks) v) ?_);have hm:Looks (model prog w) s.heap (mroOf (.ref C)) cd.mro:=(looks_clsIn X hC).andThen .now;rw[osa_eq,refuse_eq];refine wpAny_bind (wpAny_bind (Looks.here (s:={s with toks:=s.toks+1}) I.type (wpAny_bind (Looks.here (s:={s with toks:=s.toks+1}) hm ?_))));rw[mZ SF _ ht];refine wpAny_pure (wpAny_bind (Looks.here (s:={s with toks:=s.toks+1}) I.type (wpAny_bind (Looks.here (s:={s with toks:=s.toks+1}) (looks_findIn X hn) (wpAny_bind (Looks.here (s:={s with toks:=s.toks+1}) .now ?_))))));obtain⟨oc,od,oda,osl⟩:=oe;dsimp only at hc hd hv;subst hc hd hv;refine wpAny_bind (wpAny_pure (wpAny_bind (wpAny_bind (wpAny_loadPart hx (wpAny_bind (Looks.here (s:={s with toks:=s.toks+1}) (looks_clsIn X hC) ?_))))));rw[hh];rw[if_neg (by decide)]
 have ee:(s.heap.push emptyDict).get? e=some ⟨.ref C,none,.fields vs,osl⟩:=get?_push_of_some _ hx;have de:s.heap.objs.size≠e:=ne_of_gt (lt_size hx);refine wpAny_bind (wpAny_alloc (s:={s with toks:=s.toks+1}) (o:=emptyDict) (wpAny_bind (wpAny_update (s:={s with heap:=s.heap.push emptyDict,toks:=s.toks+1}) ee ?_)));have e2:=get?_update_self (λo:Obj=>{o with dict:=some s.heap.objs.size}) ee rfl;have ot:∀b,b≠e->((s.heap.push emptyDict).update e λo=>{o with dict:=some s.heap.objs.size}).get? b=(s.heap.push emptyDict).get? b:=λb z=>get?_update_other _ _ (Ne.symm z);have nd:((s.heap.push emptyDict).update e λo=>{o with dict:=some s.heap.objs.size}).Ns s.heap.objs.size (λ_=>none):=⟨emptyDict,#[],_,(ot _ de).trans (get?_push_size s.heap rfl),rfl,(λe he=>absurd he (by simp)),λ_=>rfl⟩
 refine wpAny_pure (wpAny_bind (wpAny_pure (wpAny_bind ?_)));refine wpAny_nsSet1 (s:={s with heap:=(s.heap.push emptyDict).update e λo=>{o with dict:=some s.heap.objs.size},toks:=s.toks+1}) (Heap.Ns1.of_empty nd) λh' n2 s2=>?_;obtain⟨oD,esD,epD,hoD,hdD,hcD⟩:=n2.count (ns:=[name]) (PySem.Within.cons name v (ns:=[]) λy hy=>absurd rfl hy);refine wpAny_bind (wpAny_lookBehind hoD (by rw[hdD];exact pastItsLine_dict (le_trans hcD (Nat.succ_le_succ (zero_le _)))) ?_)
 exact wpAny_pure (h h' ((s2.2 e (Ne.symm de)).trans e2) n2 λb o z y=>(s2.2 b (λq=>by subst q;exact absurd (lt_size y) (lt_irrefl _))).trans ((ot b z).trans (get?_push_of_some _ y)))
theorem HM{b:Bool}{dx:Addr}{od:Obj}{Q:Value->Shared->Prop}(X:K.In s.heap)(hx:s.heap.get? e=some oe)(hc:oe.cls=.ref C)(hd:oe.dict=some dx)(ho:s.heap.get? dx=some od)(hv:oe.data=.fields vs)(FA:ExcAttrBase B bm)(hC:clsIn K C=some cd)(hh:cd.hasDict=true)(ht:Aa bm cd.mro=true)
  (hga:findIn K (.ref C) "__getattribute__" = some (some (.builtin "BaseException.__getattribute__"))) (hgg:findIn K (.ref C) "__getattr__" = some none) (hn:findIn K (.ref C) name=some none) (hl:lookIn name od=some (some v)) (hv':handedIn v=true)
  (h:Q v {s with toks:=s.toks+1}):wpAny (model prog w) A (getAttr (.ref e) name b) Q E s:=by
 have I:InstAt s.heap e oe C (some od):=⟨hx,hc,by unfold notCls;rw[hv],by rw[hd];exact ho⟩
 obtain⟨hp,g,d,t,os⟩:=s;have L0:=I.type (M:=model prog w);have L1:=looks_findIn (M:=model prog w) X hga;have hh':hasDictIn K C=true:=by unfold hasDictIn;rw[hC];exact hh
 have L2:=looks_find (M:=model prog w) X I (findObj_own hh' hn rfl hl);unfold getAttr getAttrBy;refine wpAny_bind (wpAny_mkText (wpAny_holding (wpAny_bind (L0.at (wpAny_bind (L1.at ?_))))));dsimp only;have z1:(onTheHeap (Value.ref C) && Value.builtin "BaseException.__getattribute__" == Value.builtin "object.__getattribute__")=false:=by
  rw[show(Value.builtin "BaseException.__getattribute__" == Value.builtin "object.__getattribute__")=false from by decide +kernel];exact Bool.and_false _
 have z0:(b && onTheHeap (Value.builtin "BaseException.__getattribute__"))=false:=by cases b <;> rfl
 rw[if_neg (by rw[z1];exact Bool.false_ne_true)]
 unfold getAttrByItsOwn;have f3:=FA.ga.bind (.ref e);have L3:=looks_findIn (M:=model prog w) X hgg;have ne:cd.mro.isEmpty=false:=by
  have:=gV FA.hasBase ht;cases q:cd.mro with
  |nil=>rw[q] at this;cases this
  |cons _ _=>rfl
 have sub:Looks (model prog w) hp (isInstance (.ref e) (.type "BaseException")) true:=I.type.andThen (looks_mroIn X (by unfold mroIn;rw[hC,Option.bind_some,if_neg (by rw[ne];decide),gV FA.hasBase ht]))
 repeat (any_goals (first|assumption|(with_reducible refine L3.at ?_)|wp_step))
 refine codeAny_call_builtin FA.ga.plain PySem.F.entry_bexc_ga (@check_slot (model prog w) _ _ ⟨hp,g,d,t+1,os⟩ "BaseException.__getattribute__" "BaseException" "__getattribute__" (.ref e) [.str name t] [] _ (by decide +kernel) (by decide +kernel) sub (PySem.F.args_bexc_ga (.ref e) (.str name t)) ?_)
 refine wpAny_bind (wpAny_pure (wpAny_bind (wpAny_pure (wpAny_bind (L0.at (wpAny_bind (L2.at (wpAny_pure ?_))))))));show wpAny _ _ (handedOut v) _ _ _;rw[handedOut_of hv'];exact wpAny_pure h
end
theorem jB.onlyT{P:Program}{w:World}{H:Hp}{h h':Heap}(x:jB P w H h)(k:∀b u,(∃o,H b=some o)->h.get? b=some u->h'.get? b=some u):jB P w H h':=λa o e=>
 (x a o e).stay (λb u z q=>k b u (z.elim (λy=>⟨o,by rw[y];exact e⟩) λy=>⟨_,y⟩) q) (λ_ q=>q) (λ_ _ q=>q) λ_ _ _ q=>q
theorem aY.there{P:Program}{w:World}{H:Hp}{h:Heap}{a:Addr}{o:HO}(x:aY P w H h a o):∃u,h.get? a=some u:=by
 cases o with
 |lst xs=>obtain⟨_,_,_,_,e⟩:=x;exact⟨_,e⟩
 |tup xs=>obtain⟨_,_,_,ob,e,_⟩:=x;exact⟨_,e⟩
 |dK kvs=>obtain⟨_,_,_,_,ob,_,_,e,_⟩:=x;exact⟨_,e⟩
 |dT kvs=>obtain⟨_,_,_,_,ob,_,_,e,_⟩:=x;exact⟨_,e⟩
 |set S n=>obtain⟨ob,_,_,_,e,_⟩:=x;exact⟨_,e⟩
 |ins C dx fs=>obtain⟨_,_,_,e,_⟩:=x;exact⟨_,e⟩
 |own y=>exact x
 |xd fs=>obtain⟨_,⟨od,_,_,e,_⟩,_⟩:=x;exact⟨_,e⟩
 |rng lo hi=>obtain⟨_,_,_,e⟩:=x;exact⟨_,e⟩
 |frz ob u=>exact⟨_,x.1⟩
 |tbl ps=>exact⟨_,x⟩
 |tab good=>obtain⟨_,e,_⟩:=x;exact⟨_,e⟩
 |fnc c q=>exact x.1
 |met f y=>exact⟨_,x⟩
 |ext φ=>exact x.2.1
structure A1(P:Program)(w:World)(fs:List Addr)(l:List Env)(H0:Hp)(h0 base:Heap)(ea:Addr)(H':Hp)(h:Heap):Prop where
 un:Un fs [] H0 H' h0 h
 hok:jB P w H' h
 st:base.StaysIn h
 nw:base.get? ea=none
 fr:h.FunFrames base l
 bk:∀b o,h.get? b=some o->b∉frs l->(∃u,H' b=some u)\/(∃o0,h0.get? b=some o0)->base.get? b=some o
 hf:∀b∈frs l,H' b=none
 lf:∀b∈frs l,b∈fs\/h0.get? b=none
 fl:∀b∈fs,b∈frs l
section
variable{P:Program}{w:World}{fs:List Addr}{l outer:List Env}{env:Env}{H0 H':Hp}{h0 base h h':Heap}{ea:Addr}
theorem A1.step(x:A1 P w fs l H0 h0 base ea H' h)(k:base.StaysIn h')(f:h'.FunFrames base l)(u:h.UpToSlots h'):A1 P w fs l H0 h0 base ea H' h':=by
 have old:∀b o,h.get? b=some o->b∉frs l->(∃u,H' b=some u)\/(∃o0,h0.get? b=some o0)->h'.get? b=some o:=λb o e n z=>k _ _ (x.bk b o e n z);have slotF:∀b o,b∈frs l->h.get? b=some o->∃sl,h'.get? b=some {o with slots:=sl}:=λb o hb e=>by
  obtain⟨_,o',e',n⟩:=x.fr.mem hb;rw[e] at e';cases e';exact u b o e n
 refine⟨⟨λb o e n hb hx=>?_,λb o e n hb hx=>?_,x.un.free,λb o e hx=>?_,x.un.tups,x.un.frzs,x.un.tbls⟩,x.hok.onlyT λb v ⟨o,z⟩ e=>?_,k,x.nw,f,λb o e n z=>?_,x.hf,x.lf,x.fl⟩
 ·refine old b o (x.un.keep b o e n hb hx) (λhl=>?_) (.inr ⟨o,e⟩);rcases x.lf b hl with q|q
  ·exact hb q
  ·rw[q] at e;cases e
 ·obtain⟨sl,q⟩:=x.un.slot b o e n hb hx;obtain⟨sl',q'⟩:=slotF b _ (x.fl b hb) q;exact⟨sl',q'⟩
 ·obtain⟨o',q⟩:=x.un.there b o e hx;by_cases hl:b∈frs l
  ·obtain⟨sl,z⟩:=slotF b o' hl q;exact⟨_,z⟩
  ·exact⟨o',old b o' q hl (.inr ⟨o,e⟩)⟩
 ·exact old b v e (λhl=>by rw[x.hf b hl] at z;cases z) (.inl ⟨o,z⟩)
 ·
  have:∃o1,h.get? b=some o1:=by
   rcases z with⟨v,z⟩|⟨o0,z⟩
   ·exact(x.hok b v z).there
   ·exact x.un.there b o0 z (by simp)
  obtain⟨o1,e1⟩:=this;have e2:=old b o1 e1 n z;rw[e] at e2;cases e2;exact x.bk b o e1 n z
theorem A1.pop{L:Addr}(x:A1 P w fs (env::outer) H0 h0 base ea H' h)(e:fs=frs outer)(hf:env.frame=some L)(hL:h0.get? L=none):A1 P w (frs outer) outer H0 h0 base ea H' h:=by
 subst e;have up:∀b,b∈frs outer->b∈frs (env::outer):=λb hb=>by unfold frs at hb ⊢;rw[filterMap_cons,hf];exact .tail _ hb
 refine⟨x.un,x.hok,x.st,x.nw,x.fr.2.2,λb o e n z=>x.bk b o e (λhb=>?_) z,λb hb=>x.hf b (up b hb),λb hb=>.inl hb,λb hb=>hb⟩;have hb':b=L\/b∈frs outer:=by unfold frs at hb ⊢;rw[filterMap_cons,hf] at hb;exact mem_cons.mp hb
 rcases hb' with q|q
 ·subst q;rcases z with⟨v,z⟩|⟨o0,z⟩
  ·rw[x.hf b hb] at z;cases z
  ·rw[hL] at z;cases z
 ·exact n q
def XM(h base:Heap)(ea:Addr)(C:Addr)(dx L:Addr):Prop:=
 (∃oe vs,h.get? ea=some oe/\oe.cls=.ref C/\oe.dict=some dx/\oe.data=.fields vs/\vs[1]?=some .none)\/Tr h base ea (.ref C) (some dx) .none\/Tr h base ea (.ref C) (some dx) (rawInt L)
end
def XE(X:Cx)(E:XK)(ev:Value)(s':Shared):Prop:=
 ∃ea C dx H' base,(ev=.ref ea/\X.A.frames=some X.stack)/\s'.os=X.s₀.os/\AllBare s'.gens/\A1 X.prog X.w X.fs X.stack X.H₀ X.s₀.heap base ea H' s'.heap/\XM s'.heap base ea C dx X.env.locals/\E (.ref C) (some dx) H'
def vm(P:Program)(w:World):ym:=λouter H s E ev s'=>
 ∃ea C dx H' base,ev=.ref ea/\s'.os=s.os/\AllBare s'.gens/\A1 P w (frs outer) outer H s.heap base ea H' s'.heap/\Tr s'.heap base ea (.ref C) (some dx) .none/\E (.ref C) (some dx) H'
section
variable{X:Cx}{E:XK}{pins:List (Addr×Obj)}{σ:St}{H:Hp}{s s':Shared}{ev:Value}
theorem FI{M:Model}{A:Around}{E:Value->Shared->Prop}{base:Heap}{l:List Env}{e L:Addr}{cls fl:Value}{dx:Option Addr}{Q:Unit->Shared->Prop}(F:xm base l e cls dx fl s.heap)(h:∀h',xm base l e cls dx (rawInt L) h'->s.heap.UpToSlots h'->Q () {s with heap:=h'}):wpAny M A (setFlight (.ref e) (some L)) Q E s:=by
 obtain⟨hb,hn,hl,oe,vs,T,oT,ts,he,hc,hd,h1,hT,Te,hT2,hdT,h3⟩:=F;have z3:3<ts.size:=(Array.getElem?_eq_some_iff.mp h3).1;have other:∀b,b≠T->(s.heap.update T (Obj.mapFields (·.setIfInBounds 3 ((some L:Option Addr).elim Value.none λf=>rawInt f)))).get? b=s.heap.get? b:=λb z=>get?_update_other _ _ (Ne.symm z);have nr:∀b o,s.heap.get? b=some o->(∀vs,o.data≠.fields vs)->b≠T:=λb o z y q=>by rw[q,hT2] at z;cases z;exact y ts hdT
 unfold setFlight;refine wpAny_bind (wpAny_field he hd h1 ?_);rw[if_pos (show(Value.ref T != Value.none)=true from by simp)]
 refine wpAny_setField hT2 hdT z3 (h _ ⟨λb o z=>(other b λq=>by rw[q,hT] at z;cases z).trans (hb b o z),hn,hl.of_keeps λb o z y=>⟨o,(other b (nr b o z y)).trans z,rfl⟩,oe,vs,T,_,_,(other e (Ne.symm Te)).trans he,hc,hd,h1,hT,Te,get?_update_self _ hT2 (Obj.isFreed_of_fields (Obj.data_mapFields hdT _)),Obj.data_mapFields hdT _,by simp[z3]⟩ λb o z y=>⟨o.slots,(other b (nr b o z y)).trans z⟩)
theorem XE.note{M:Model}{E':Value->Shared->Prop}{ea:Addr}{C dx:Addr}{H':Hp}{base:Heap}{Q:Unit->Shared->Prop}(hst:X.stack=X.env::X.outer)(hf:X.env.frame=some X.env.locals)(hA:X.A.frames=some X.stack)
  (u:A1 X.prog X.w X.fs X.stack X.H₀ X.s₀.heap base ea H' s'.heap) (m:XM s'.heap base ea C dx X.env.locals)
  (h:∀h',A1 X.prog X.w X.fs X.stack X.H₀ X.s₀.heap base ea H' h'->xm base X.stack ea (.ref C) (some dx) (rawInt X.env.locals) h'->Q () {s' with heap:=h'}):wpAny M X.A (noteFrame (.ref ea) X.env) Q E' s':=by
 have go:∀h',xm base (X.env::X.outer) ea (.ref C) (some dx) (rawInt X.env.locals) h'->s'.heap.UpToSlots h'->Q () {s' with heap:=h'}:=λh' F k=>by
  rw[←hst] at F;exact h h' (u.step F.st F.fr k) F
 have fr:=u.fr;rw[hst] at fr hA;rcases m with⟨oe,vs,e1,e2,e3,e4,e5⟩|m|m
 ·exact CP hA fr hf e1 u.st u.nw e4 e5 λh' F k=>go h' (by rw[e2,e3] at F;exact F) k
 ·exact xn hA hf ⟨u.st,u.nw,fr,m⟩ go
 ·exact CO hf (l:=X.env::X.outer) ⟨u.st,u.nw,fr,m⟩ (go s'.heap ⟨u.st,u.nw,fr,m⟩ (.refl _))
theorem qC(hst:X.stack=X.env::X.outer)(hf:X.env.frame=some X.env.locals):PassesOwn (model X.prog X.w) X.A X.env (XE X E):=λev s' ⟨ea,C,dx,H',base,⟨e1,hA⟩,e2,e3,u,m,q⟩=>by
 subst e1;refine XE.note hst hf hA u m λh' u' F=>?_;obtain⟨hb,hn,hl,oe,vs,T,oT,ts,he,hc,hd,h1,hT,Te,hT2,hdT,h3⟩:=F;refine wpAny_bind (wpAny_field (s:={s' with heap:=h'}) he hd h1 ?_);rw[if_neg (by simp),hf]
 refine FI (s:={s' with heap:=h'}) (l:=X.stack) ⟨hb,hn,hl,oe,vs,T,oT,ts,he,hc,hd,h1,hT,Te,hT2,hdT,h3⟩ λh2 F k=>?_;exact⟨ea,C,dx,H',base,⟨rfl,hA⟩,e2,e3,u'.step F.st F.fr k,.inr (.inr F.tr),q⟩
theorem A3{M:Model}{E':Value->Shared->Prop}(hst:X.stack=X.env::X.outer)(hf:X.env.frame=some X.env.locals)(hL:X.s₀.heap.get? X.env.locals=none)(h:XE X E ev s'):
  wpAny M X.A (leaving X.env ev) (λ_ s2=>vm X.prog X.w X.outer X.H₀ X.s₀ E ev s2) E' s':=by
 obtain⟨ea,C,dx,H',base,⟨e1,hA⟩,e2,e3,u,m,q⟩:=h;subst e1;unfold leaving;refine wpAny_bind (XE.note hst hf hA u m λh' u' F=>qD (s:={s' with heap:=h'}) F λh2 F2 k=>?_);have u2:=u'.step F2.st F2.fr k;rw[hst] at u2;exact⟨ea,C,dx,H',base,rfl,e2,e3,u2.pop rfl hf hL,F2.tr,q⟩
theorem CL(hx:X.ex=[])(hst:X.stack=X.env::X.outer)(hf:X.env.frame=some X.env.locals)(I:ay X pins σ H s)(h:vm X.prog X.w X.stack H s E ev s'):XE X E ev s':=by
 obtain⟨ea,C,dx,H',base,e1,e2,e3,u,m,q⟩:=h;have I':=I.call' (s':=s') e2 u.un u.hok e3 (λb hb=>absurd hb (by simp))
 have b:=I'.base;rw[hx] at b;have b0:=I.base;rw[hx] at b0;refine⟨ea,C,dx,H',base,⟨e1,I.ok.frames⟩,I'.os,e3,⟨b,u.hok,u.st,u.nw,u.fr,λc o z n y=>u.bk c o z n (y.imp id λ⟨o0,y⟩=>b0.there c o0 y (by simp)),u.hf,λc hc=>?_,λc hc=>?_⟩,.inr (.inl m),q⟩
 ·rw[hst] at hc;have hb':c=X.env.locals\/c∈frs X.outer:=by unfold frs at hc ⊢;rw[filterMap_cons,hf] at hc;exact mem_cons.mp hc
  rcases hb' with z|z
  ·exact .inr (by rw[z];exact get?_none_of_le I.ok.above)
  ·exact .inl z
 ·rw[hst];unfold Cx.fs at hc;unfold frs at hc ⊢;rw[filterMap_cons,hf];exact .tail _ hc
end
abbrev Jm:List Value:=[.type "ValueError",.type "Exception",.type "BaseException",.type "object"]
def yn(K:Frag)(C fI:Addr):Bool:=match K.lookup C with
 |some ⟨.type "type",_,.cls cd,sl⟩=>(match cd.mro,sl.toList with
  |.ref C'::bm,[_,_,_,_,some (.builtin n),_]=>C' == C && n == "ValueError.__new__" && !cd.hasDel && tailIn K Jm bm && nsOkIn K cd.ns && nsIn K cd.ns "__init__" == some (some (.ref fI)) && cd.hasDict && Aa Jm bm
  |_,_=>false)
 |_=>false
structure XC(K:Frag)(C fI:Addr)(f:Str):Prop where
 cl:yn K C fI=true
 fn:typeIn K (.ref fI)=some (.type "function")
 sa:findIn K (.ref C) "__setattr__" = some (some (.builtin "object.__setattr__"))
 ga:findIn K (.ref C) "__getattribute__" = some (some (.builtin "BaseException.__getattribute__"))
 gg:findIn K (.ref C) "__getattr__" = some none
 no:findIn K (.ref C) f=some none
 kp:keepIn K (.ref C)=true
section
variable{K:Frag}{C fI:Addr}{f:Str}{h:Heap}
theorem XC.cd(x:XC K C fI f):∃cd,clsIn K C=some cd/\cd.hasDict=true/\Aa Jm cd.mro=true:=by
 have q:=x.cl;unfold yn at q;split at q
 ·rename_i dd cd sl ho;split at q
  ·rename_i C' bm k0 k1 k2 k3 n k5 hm hs;simp only[Bool.and_eq_true,beq_iff_eq,Bool.not_eq_true'] at q;refine⟨cd,by unfold clsIn;rw[ho],q.1.2,?_⟩
   rw[hm];unfold Aa;simp[q.2]
  ·cases q
 ·cases q
theorem zq{N:Addr}{n:Str}{v:Value}(X:K.In h)(G:∃m,h.Ns N m)(e:nsIn K N n=some (some v)):∃m,h.Ns N m/\m n=some v:=by
 obtain⟨m,G⟩:=G;have G':=G;refine⟨m,G',?_⟩;obtain⟨o,es,ep,ho,hd,_,hf⟩:=G;unfold nsIn at e;split at e
 ·rename_i c d es' n' sl q;have:=X _ _ q;rw[ho] at this;cases this;cases hd;rw[←hf];unfold nsFind findBy;rw[←Array.find?_toList];split at e
  ·rename_i he;cases e;rw[he];rfl
  ·split at e <;> cases e
 ·cases e
theorem XC.cls(x:XC K C fI f)(X:K.In h):xh h C fI Jm "ValueError.__new__" := by
 have q:=x.cl;unfold yn at q;split at q
 ·rename_i dd cd sl ho;split at q
  ·rename_i C' bm k0 k1 k2 k3 n k5 hm hs;simp only[Bool.and_eq_true,beq_iff_eq,Bool.not_eq_true'] at q;obtain⟨⟨⟨⟨⟨⟨⟨rfl,rfl⟩,hdel⟩,ht⟩,hok⟩,hni⟩,hdd⟩,_⟩:=q;obtain⟨nm,bs,mro,ns,qn,hd,sn,sub,ab,col,del⟩:=cd;dsimp only at hm hdel hok hni hdd;subst hm hdel;have hsl:sl=#[k0,k1,k2,k3,some (.builtin "ValueError.__new__"),k5]:=by
    obtain⟨l⟩:=sl;simp only at hs;rw[hs]
   subst hsl;obtain⟨m,G,e⟩:=zq X ⟨_,.of_isNs (isNs_of_in X hok)⟩ hni;obtain⟨oI,e1,e2⟩:=Option.map_eq_some_iff.mp (show(K.lookup fI).map (·.cls)=some (.type "function") from x.fn);exact⟨nm,qn,ns,bs,bm,hd,sn,sub,ab,col,dd,k0,k1,k2,k3,k5,m,oI,X _ _ ho,G,e,X _ _ e1,e2,tail_of_in X ht⟩
  ·cases q
 ·cases q
end
abbrev XO(e:Addr)(oe:Obj):HO:=.ext λh=>h.get? e=some oe
theorem A2{P:Program}{w:World}{H:Hp}{h:Heap}{e:Addr}{oe:Obj}(x:h.get? e=some oe):aY P w H h e (XO e oe):=⟨x,⟨_,x⟩,λ_ _ z k=>k _ z⟩
section
variable{X:Cx}{pins:List (Addr×Obj)}{σ:St}{H:Hp}{s:Shared}{C fI e:Addr}{f:Str}{oe:Obj}{vs:Array Value}{v:V}{u:Value}
theorem FH(I:ay X pins σ H s)(x:XC X.K C fI f)(he:H e=some (XO e oe))(hc:oe.cls=.ref C)(hd:oe.dict=none)(hv:oe.data=.fields vs)(r:RelV v u){Q:Unit->Shared->Prop}
  (h:∀s' dx,H dx=none->dx≠e->ay X pins σ (aS (aS H e (XO e {oe with dict:=some dx})) dx (.xd [(f,v)])) s'->Q () s'):wpAny (model X.prog X.w) X.A (setAttr (.ref e) f u) Q X.xe s:=by
 obtain⟨cd,c1,c2,c3⟩:=x.cd;have hx:s.heap.get? e=some oe:=(show aY X.prog X.w H s.heap e (XO e oe) from I.hok e _ he).1;have hn:H s.heap.objs.size=none:=I.hok.fresh (le_refl _);have ne:s.heap.objs.size≠e:=ne_of_gt (lt_size hx);refine HL I.kIn hx hc hd hv c1 c2 PySem.F.store_ValueError c3 x.sa x.no λh' e1 n1 k=>h _ s.heap.objs.size hn ne ?_;have other:∀b,b≠s.heap.objs.size->b≠e->aS (aS H e (XO e {oe with dict:=some s.heap.objs.size})) s.heap.objs.size (.xd [(f,v)]) b=H b:=λb z y=>by rw[ak z,ak y]
 have neH:∀b o,H b=some o->b≠s.heap.objs.size:=λb o z y=>by rw[y,hn] at z;cases z
 have neE:∀b o,H b=some o->o≠XO e oe->b≠e:=λb o z n y=>by rw[y,he] at z;cases z;exact n rfl
 have old:∀b o,s.heap.get? b=some o->b≠s.heap.objs.size:=λb o z=>ne_of_lt (lt_size z);refine I.un (h':=h') (t':=s.toks+2) ⟨λb o z n _ _=>k b o (λy=>by rw[y,he] at n;cases n) z,λb o z n _ _=>⟨o.slots,k b o (λy=>by rw[y,he] at n;cases n) z⟩,λb o z n _=>?_,λb o z _=>?_,λb xs z=>?_,λb o w z=>?_,λb ps z=>?_⟩ λb o z=>?_
 ·rw[other b (old b o z) (λy=>by rw[y,he] at n;cases n)];exact n
 ·by_cases y:b=e
  ·rw[y];exact⟨_,e1⟩
  ·exact⟨o,k b o y z⟩
 ·rw[other b (neH b _ z) (neE b _ z (λy=>by cases y))];exact z
 ·rw[other b (neH b _ z) (neE b _ z (λy=>by cases y))];exact z
 ·rw[other b (neH b _ z) (neE b _ z (λy=>by cases y))];exact⟨#[],by rw[z];simp⟩
 ·by_cases y:b=s.heap.objs.size
  ·rw[y,aq] at z;cases z;rw[y];refine⟨_,n1,λg=>?_⟩;show RelO (List.lookup g [(f,v)]) (if g=f then some u else none);by_cases q:g=f
   ·rw[if_pos q,q];simp[List.lookup];exact r
   ·rw[if_neg q];have:(g == f)=false:=by simpa using q
    simp[List.lookup,this];trivial
  ·by_cases y2:b=e
   ·rw[ak y,y2,aq] at z;cases z;rw[y2];exact A2 e1
   ·rw[other b y y2] at z;refine(I.hok b o z).stay (λc w hc q=>k c w ?_ q) (λc q=>?_) (λc xs q=>?_) λc ob yy q=>?_
    ·rcases hc with rfl|hc
     ·exact y2
     ·exact neE c _ hc (λy=>by cases y)
    all_goals rw[other c (neH c _ q) (neE c _ q (λy=>by cases y))];exact q
end
section
variable{M:Model}{A:Around}{E:Value->Shared->Prop}{s:Shared}{env:Env}{C fI:Addr}{bm:List Value}{nid:String}
theorem CN{x:Sem Value}{Q:Flow->Shared->Prop}(hb:bm.contains (.type "BaseException")=true)(hh:A.handled=none)
  (h:wpAny M A x (λv s1=>∃e oe vs,v=.ref e/\xh s1.heap C fI bm nid/\s1.heap.get? e=some oe/\oe.cls=.ref C/\oe.data=.fields vs/\vs[1]?=some .none/\E (.ref e) s1) E s):wpAny M A (raiseStmt env (some x) none) Q E s:=by
 unfold raiseStmt;refine wpAny_bind (wpAny_mono h (λv s1 ⟨e,oe,vs,h1,X,he,hc,hd,h2,hE⟩=>?_) λ_ _ z=>z);subst h1;obtain⟨nm,q,N,bs,bt,hdt,sn,sub,ab,col,dd,k0,k1,k2,k3,k5,mN,oI,hC,hn,hi,hf,hfc,T⟩:=X;have hcB:(Value.ref C::bt).contains (.type "BaseException")=true:=by rw[List.contains_cons,T.hasType hb,Bool.or_true]
 obtain⟨hp,g,d,tk,os⟩:=s1
 repeat (first|(with_reducible refine wpAny_loadPart_at he ?_;rw[hc])|(with_reducible refine wpAny_loadPart_at hC ?_)|(with_reducible refine wpAny_isSubtype_exc hC ?_;rw[hcB])|(with_reducible refine wpAny_field he hd h2 ?_)|wp_step)
 exact wpAny_raiseNew_none hh hE
end
def D7(C:Addr)(f:Str):Sp:=λus H Q _=>∃e oe vs v,us=[.ref e,v]/\H e=some (XO e oe)/\oe.cls=.ref C/\oe.dict=none/\oe.data=.fields vs/\∀dx,H dx=none->dx≠e->Q .non (aS (aS H e (XO e {oe with dict:=some dx})) dx (.xd [(f,v)]))
section
variable{X:Cx}{C fI:Addr}{f y:Str}{p1 p2 p3 p4:Pos}
def tI(C:Addr)(f:Str):TS:=λD σ H=>∃e oe vs v,σ[0]?=some (some (.ref e))/\σ[1]?=some (some v)/\H e=some (XO e oe)/\oe.cls=.ref C/\oe.dict=none/\oe.data=.fields vs/\∀dx,H dx=none->dx≠e->D.nx σ (aS (aS H e (XO e {oe with dict:=some dx})) dx (.xd [(f,v)]))
theorem Do(x:XC X.K C fI f)(h0:X.N[0]?=some ("self":Str))(h1:X.N[1]?=some y)(v0:qy X.env.scope "self")(v1:qy X.env.scope y)(hs:swapsWith (.Name y p3) (some (.Attribute (.Name "self" p1) f p2)) p4.line X.env=pure false)
  (hd:(y == ("__debug__":Str))=false) (hcd:(y == ("__classdict__":Str))=false):PS X (.Assign [.Attribute (.Name "self" p1) f p2] (.Name y p3) p4) (tI C f):=by
 intro pins s σ H D I ⟨e,oe,vs,v,a0,a1,he,hc,hdi,hv,q⟩;refine plainObj_wpAny_Assign_Attribute (bW (iL h1 v1 hd hcd pins s σ H (λz H1=>z=v/\H1=H) I ⟨v,a1,rfl,rfl⟩) λu s1 ⟨z,H1,I1,r1,z1,z2⟩=>?_) hs;subst z1 z2;refine bW (iL h0 v0 (by decide) (by decide) pins s1 σ H1 (λz' H2=>z'=.ref e/\H2=H1) I1 ⟨_,a0,rfl,rfl⟩) λov s2 ⟨z',H2,I2,r2,y1,y2⟩=>?_
 subst y1 y2;obtain rfl:ov=Value.ref e:=r2;exact FH I2 x he hc hdi hv r1 λs' dx n1 n2 I3=>⟨σ,_,I3,q dx n1 n2⟩
end
section
variable{P:Program}{w:World}{K:Frag}{mg:Str->Option Value}{base:Heap}
theorem Eh{qual:Str}{st:Stmt}{fI C:Addr}{fd:FuncData}{f y:Str}{p1 p2 p3 p4:Pos}(F:sC K "__init__" qual st fI fd)(S:ax [("self":Str),y] [("self":Str),y] (a9 st))(x:XC K C fI f)
  (hb:ao st=[.Assign [.Attribute (.Name "self" p1) f p2] (.Name y p3) p4]) (v0:qy (a9 st) "self") (v1:qy (a9 st) y) (hd:(y == ("__debug__":Str))=false) (hcd:(y == ("__classdict__":Str))=false)
  (hs:∀env:Env,swapsWith (.Name y p3) (some (.Attribute (.Name "self" p1) f p2)) p4.line env=pure false):bV P w K mg base jg 1 fI fd [("self":Str),y] (D7 C f):=by
 refine F.ok (k:=0) S (λus H Q E ⟨e,oe,vs,v,h,_⟩=>by rw[h];rfl) λcdv A outer s H us Q E hr ⟨e,oe,vs,v,h,he,hc,hdi,hv,q⟩=>⟨tI C f,?_,e,oe,vs,v,by rw[h];rfl,by rw[h];rfl,he,hc,hdi,hv,q⟩
 rw[hb];exact kr (Do x rfl rfl v0 v1 (hs _) hd hcd)
end
section
variable{X:Cx}{E:XK}{C fI:Addr}{f nm:Str}{fd:FuncData}{ps:List Str}{k:Nat}{p cpos pos:Pos}{e:Expr}{t:TA}
def FL(C:Addr)(f:Str)(E:XK)(t:TA):TS:=λ_ σ H=>t σ H λus H1=>∃v,us=[v]/\∀dx,H1 dx=none->E (.ref C) (some dx) (aS H1 dx (.xd [(f,v)]))
theorem AA(x:XC X.K C fI f)(G:bV X.prog X.w X.K X.mg X.base jg k fI fd ps (D7 C f))(hr:ba (k+1) X.A)(hg:Gl X nm)(hm:X.mg nm=some (.ref C))(hb:bO X.K fd ps [])(hcalm:X.calm=true)(hx:X.ex=[])(hst:X.stack=X.env::X.outer)(hf:X.env.frame=some X.env.locals)
  (hle:∀ev s',XE X E ev s'->X.xe ev s') (ha:PA X [e] t) (hdb:(nm == ("__debug__":Str))=false:=by decide) (he:starEach [e] X.env=(false,eval e X.env)::starEach [] X.env:=by rfl) (hpl:(backTo cpos (starEach [] X.env)).any (·.1)=false:=by rfl):
  PS X (.Raise (some (.Call (.Name nm p) [e] [] cpos)) none pos) (FL C f E t):=by
 intro pins s σ H D I h;rw[arm_exec_Raise];refine wpAny_bind (wpAny_standAt (CN (C:=C) (fI:=fI) (nid := "ValueError.__new__") (bm:=Jm) (by decide +kernel) (I.ok.hd hcalm) ?_))
 show wpAny _ _ (do let v ←eval (.Call (.Name nm p) [e] [] cpos) X.env;standAt pos;pure v) _ _ s
 refine wpAny_bind (wpAny_Call_Name_kw (i7 I hg hm ?_ hdb));refine callWith_K (h₀:=X.base) I.ok.mod.kin x.kp (bW (ha cpos pins s σ H _ I h) λus s1 ⟨vs,H1,I1,r,v,hv,q⟩=>⟨I1.kIn,?_⟩) he hpl;subst hv;obtain⟨u,rfl,ru⟩:=r.one;obtain⟨hp,g,d,tk,os⟩:=s1;refine FJ PySem.F.excBase_ValueError (x.cls I1.kIn) (us:=[u]) (le_trans (show[u].length<=1 from le_refl _) (by decide)) λh' ea hmd hea=>?_
 obtain⟨tt,te,_,_⟩:=hmd.there;generalize hoe:({cls:=.ref C,data:=.fields #[.ref tt,.none,.none,.none,.bool false,.none]}:Obj)=oe at te;have n1:H1 ea=none:=I1.hok.fresh hea;have I2:ay X pins σ (aS H1 ea (XO ea oe)) ⟨h',g,d,tk,os⟩:=I1.laid (a:=ea) (o:=XO ea oe) (h':=h') (t':=tk) hmd.keeps hea (A2 te);have e2:aS H1 ea (XO ea oe) ea=some (XO ea oe):=aq;have hl:([Value.ref ea,u]++[]).length=ps.length:=by
  have:=G.len [.ref ea,v] (aS H1 ea (XO ea oe)) (λ_ _=>True) E0 ⟨ea,oe,_,v,rfl,e2,by rw[←hoe],by rw[←hoe],by rw[←hoe],λ_ _ _=>trivial⟩
  exact this
 refine wpAny_call (codeAny_mono (G.run _ X.stack _ _ ⟨[.ref ea,u],[]⟩ [.ref ea,u] [.ref ea,v] (λz H3=>z=.non/\∃dx,H1 dx=none/\dx≠ea/\H3=aS (aS (aS H1 ea (XO ea oe)) ea (XO ea {oe with dict:=some dx})) dx (.xd [(f,v)])) E0 (hr.make C [u] []) (I2.env0.make C [u] []) (by have:=hb ⟨h',g,d,tk,os⟩ [.ref ea,u] I2.kIn hl;rwa[append_nil] at this) (.cons rfl (.cons ru .nil))
  ⟨ea,oe,_,v,rfl,e2,by rw[←hoe],by rw[←hoe],by rw[←hoe],λdx y1 y2=>⟨rfl,dx,by rw[ak y2] at y1;exact y1,y2,rfl⟩⟩) λr s3 hq=>?_)
 cases r with
 |error ev=>exact False.elim hq
 |ok fl=>
  cases fl with
  |next=>exact False.elim hq
  |brk=>exact False.elim hq
  |cont=>exact False.elim hq
  |ret ur=>
   obtain⟨z,H3,I3,rz,ez,dx,y1,y2,y3⟩:=I2.after hq;subst ez;refine⟨rz,wpAny_bind (wpAny_standAt (wpAny_pure ?_))⟩;have e3:H3 ea=some (XO ea {oe with dict:=some dx}):=by rw[y3,ak (Ne.symm y2),aq]
   have o3:∀b,b≠ea->H3 b=aS H1 dx (.xd [(f,v)]) b:=λb hb=>by
    rw[y3];by_cases hd:b=dx
    ·rw[hd,aq,aq]
    ·rw[ak hd,ak hd,ak hb,ak hb]
   have o4:aS H1 dx (.xd [(f,v)]) ea=none:=by rw[ak (Ne.symm y2)];exact n1
   have g3:s3.heap.get? ea=some {oe with dict:=some dx}:=(show aY X.prog X.w H3 s3.heap ea _ from I3.hok ea _ e3).1;have ne3:∀b o,H3 b=some o->(∀ob,o≠XO ea ob)->b≠ea:=λb o z n y=>by rw[y,e3] at z;cases z;exact n _ rfl
   refine⟨ea,_,_,rfl,x.cls I3.kIn,g3,by rw[←hoe],by rw[←hoe],rfl,hle _ _ ⟨ea,C,dx,aS H1 dx (.xd [(f,v)]),hideAll s3.heap (ea::frs X.stack),⟨rfl,I.ok.frames⟩,I3.os,I3.bare,?_,.inl ⟨_,_,g3,by rw[←hoe],rfl,by rw[←hoe],rfl⟩,q dx y1⟩⟩
   have b3:=I3.base;rw[hx] at b3;have inS:∀c,c∈frs X.stack->c=X.env.locals\/c∈X.fs:=λc hc=>by
    rw[hst] at hc;unfold frs at hc;rw[filterMap_cons,hf] at hc;exact mem_cons.mp hc
   have lo:∀b o,X.s₀.heap.get? b=some o->b≠ea:=λb o z y=>by
    have h1:=lt_size z;have h2:X.s₀.heap.objs.size<=hp.objs.size:=I1.sz;rw[y] at h1;exact absurd (lt_of_lt_of_le h1 (le_trans h2 hea)) (lt_irrefl _)
   refine⟨⟨b3.keep,b3.slot,λb o z n hx'=>?_,b3.there,λb xs z=>?_,λb o u z=>?_,λb pp z=>?_⟩,λb o z=>?_,λb o z=>of_hideAll _ z,hideAll_none _ (.head _),funFrames_hide I3.stack λen he' a ha'=>.tail _ (List.mem_filterMap.mpr ⟨en,he',ha'⟩),λb o z n y=>hideAll_get _ z λhm'=>?_,λb hb'=>?_,λc hc=>?_,λc hc=>?_⟩
   ·rw[←o3 b (lo b o z)];exact b3.free b o z n hx'
   ·have:=b3.tups b xs z;rw[←o3 b (ne3 b _ this (λ_ y=>by cases y))];exact this
   ·have:=b3.frzs b o u z;rw[←o3 b (ne3 b _ this (λ_ y=>by cases y))];exact this
   ·obtain⟨more,this⟩:=b3.tbls b pp z;exact⟨more,by rw[←o3 b (ne3 b _ this (λ_ y=>by cases y))];exact this⟩
   ·have nb:b≠ea:=λy=>by rw[y,o4] at z;cases z
    refine(I3.hok b o (by rw[o3 b nb];exact z)).stay (λc w _ q=>q) (λc q=>?_) (λc xs q=>?_) λc ob yy q=>?_
    all_goals rw[←o3 c (ne3 c _ q (λ_ y=>by cases y))];exact q
   ·rcases mem_cons.mp hm' with y'|y'
    ·rw[y'] at y;rcases y with⟨w',y⟩|⟨o0,y⟩
     ·rw[o4] at y;cases y
     ·exact lo _ _ y rfl
    ·exact n y'
   ·have:=I3.stkFree b hb';rw[←o3 b (λy=>by rw[y,e3] at this;cases this)];exact this
   ·rcases inS c hc with y|y
    ·exact .inr (by rw[y];exact get?_none_of_le I.ok.above)
    ·exact .inl y
   ·rw[hst];unfold frs;rw[filterMap_cons,hf];exact .tail _ hc
end
abbrev Cx.hdl(X:Cx)(ev:Value)(p:List (Addr×Obj)):Cx:={X with A:=X.A.mark (some ev),calm:=false,pn:=p++X.pn,xe:=λ_ _=>False}
section
variable{X:Cx}{pins:List (Addr×Obj)}{σ:St}{H:Hp}{s:Shared}{ev:Value}{p:List (Addr×Obj)}
theorem ay.hdl(I:ay X pins σ H s)(hp:∀q∈p,s.heap.get? q.1=some q.2/\H q.1=none/\q.1≠X.env.locals/\q.1∉X.fs/\∀v,q.2.data≠.cell v):ay (X.hdl ev p) pins σ H s:=
 ⟨⟨I.ok.mod,I.ok.kind,I.ok.glob,I.ok.blt,I.ok.above,I.ok.inj,I.ok.has,I.ok.cab,(λz=>nomatch z),I.ok.frames,I.ok.stk,I.ok.exf,I.ok.bs,I.ok.bsz,I.ok.noex,I.ok.exfs,I.ok.funs,I.ok.frf⟩,I.os,I.bare,I.base,I.loc,I.cell,I.free,I.freeC,
  (λq hq=>(mem_append.mp hq).elim (λz=>(mem_append.mp z).elim (hp q) λz=>I.pin q (mem_append_left _ z)) λz=>I.pin q (mem_append_right _ z)),I.hok,I.len⟩
theorem ay.unhdl(I:ay (X.hdl ev p) pins σ H s)(ok:X.Ok):ay X pins σ H s:=
 ⟨ok,I.os,I.bare,I.base,I.loc,I.cell,I.free,I.freeC,(λq hq=>I.pin q ((mem_append.mp hq).elim (λz=>mem_append_left _ (mem_append_right _ z)) λz=>mem_append_right _ z)),I.hok,I.len⟩
theorem A4{M:Model}{A:Around}{E:Value->Shared->Prop}{i:Nat}{n:Str}{v:V}{Q:Unit->Shared->Prop}(I:ay X pins σ H s)(hN:X.N.Nodup)(hi:X.N[i]?=some n)(hk:X.env.scope.names.lookup n=some .local)(hv:σ[i]?=some (some v))
  (h:∀s',ay X pins (σ.set i none) H s'->Q () s'):wpAny M A (unbindName X.env n) Q E s:=by
 obtain⟨m,hn,hl⟩:=id I.loc;obtain⟨u,r,q⟩:=hl i n v hi hv (.inl hk);have hm:m n=some u:=by
  rcases q with⟨_,e⟩|⟨k,_⟩
  ·exact e
  ·exfalso;have k0:X.env.kindOf n=some .local:=hk;rcases k with k|k <;> rw[k0] at k <;> cases k
 have hiσ:i<σ.length:=by rw[I.len];exact(List.getElem?_eq_some_iff.mp hi).1
 have cne:=I.cne;refine wpAny_unbindName_local hk hn hm (by rw[I.ok.kind];rfl) λh' u' hn' hs=>h {s with heap:=h'} ?_
 obtain⟨oL,_,_,hoL,_⟩:=id hn;have lo:∀b o,X.s₀.heap.get? b=some o->b≠X.env.locals:=λb o e=>ne_of_lt (lt_of_lt_of_le (lt_size e) I.ok.above);refine⟨I.ok,I.os,I.bare,⟨λb o e n hb hx=>(hs.2 b (lo b o e)).trans (I.base.keep b o e n hb hx),λb o e n hb hx=>?_,I.base.free,λb o e hx=>?_,I.base.tups,I.base.frzs,I.base.tbls⟩,⟨_,hn',λj y v' e1 e2 e3=>?_⟩,λy c e=>?_,I.free,I.freeC,λp hp=>?_,λb ob e=>?_,by simpa using I.len⟩
 ·obtain⟨sl,e1⟩:=I.base.slot b o e n hb hx;exact⟨sl,(hs.2 b (lo b o e)).trans e1⟩
 ·obtain⟨o',e1⟩:=I.base.there b o e hx;exact⟨o',(hs.2 b (lo b o e)).trans e1⟩
 ·have hj:j≠i:=λz=>by rw[z,getElem?_set_self hiσ] at e2;cases e2
  rw[getElem?_set_ne (Ne.symm hj)] at e2;obtain⟨u2,r2,q2⟩:=hl j y v' e1 e2 e3;refine⟨u2,r2,?_⟩;rcases q2 with⟨k,e⟩|⟨k,c,e,z⟩
  ·have:y≠n:=λe=>hj (nv hN e1 (e▸hi));exact .inl ⟨k,by simp[this,e]⟩
  ·exact .inr ⟨k,c,e,z.sameBut hs (cne y c e)⟩
 ·obtain⟨w',z⟩:=I.cell y c e;exact⟨w',z.sameBut hs (cne y c e)⟩
 ·obtain⟨e,n,ne,nf,d⟩:=I.pin p hp;exact⟨(hs.2 p.1 ne).trans e,n,ne,nf,d⟩
 ·refine(I.hok b ob e).stay (λc w' hc q=>(hs.2 c ?_).trans q) (λ_ q=>q) (λ_ _ q=>q) λ_ _ _ q=>q;intro z;rcases hc with y|y
  ·rw[←y,z,I.free] at e;cases e
  ·rw[z,I.free] at y;cases y
end
end L2
namespace L3
open PySem PySem.Spec PyProof.Rows L2
def wR(c:String)(f:Str)(n:Int):D:=.obj c [f] [.int n]
def WE(Γ:Ct)(E:XK):XW:=λx _ H=>∀c f n dx,x=wR c f n->H dx=none->E (.ref (Γ.cls c)) (some dx) (aS H dx (.xd [(f,.int n)]))
def KE(Γ:Ct)(F:List D->Option R):Sp:=λvs H Q E=>yF Γ (WE Γ E) F vs H Q
def Ky(P:Program)(w:World)(K:Frag)(mg:Str->Option Value)(base:Heap)(Γ:Ct)(k:Nat)(x:Str)(ps:List Str)(F:List D->Option R):Prop:=
 ∃f fd,bV P w K mg base (vm P w) k f fd ps (KE Γ F)/\mg x=some (.ref f)/\PySem.W.keepIn K (.ref f)=true/\bO K fd ps []
abbrev vg(P:Program)(w:World)(K:Frag)(mg:Str->Option Value)(base:Heap)(N:List Str)(qual:Str)(scope:Scope)(f:Addr)(cd:Value)(A:Around)(outer:List PySem.Env)(s:Shared)(H:Hp)(E:XK):Cx:=
 (iB (vm P w) P w K mg base N qual scope f cd A outer s H E).wish (XE (iB (vm P w) P w K mg base N qual scope f cd A outer s H E) E)
section
variable{P:Program}{w:World}{K:Frag}{mg:Str->Option Value}{base:Heap}{Γ:Ct}
theorem A5{N:List Str}{qual:Str}{scope:Scope}{f:Addr}{cd:Value}{A:Around}{outer:List PySem.Env}{s:Shared}{H:Hp}{E:XK}{st:List Stmt}{t:TS}(h:ip (vg P w K mg base N qual scope f cd A outer s H E) st t):ip (iB (vm P w) P w K mg base N qual scope f cd A outer s H E) st t:=λpins s1 σ H1 D I hw=>
 wpAny_mono (h pins s1 σ H1 D (I.wish _) hw) (λ_ _ q=>q.unwish) λev s' z=>A3 rfl rfl (get?_none_of_le (le_refl _)) z
theorem JJ{x qual:Str}{st:Stmt}{f:Addr}{fd:FuncData}{N ps:List Str}{k:Nat}{sp:Sp}(F:sC K x qual st f fd)(S:ax N ps (a9 st))(len:∀vs H Q E,sp vs H Q E->vs.length=ps.length)
  (hbody:∀(cdv:Value)(A:Around)(outer:List PySem.Env)(s:Shared)(H:Hp)(vs:List V)(Q:VK)(E:XK),ba k (A.deeper (envOfC qual (a9 st) s.heap.objs.size f cdv))->sp vs H Q E->
   ∃t,ip (vg P w K mg base N qual (a9 st) f cdv A outer s H E) (ao st) t/\t {nx:=λ_ H'=>Q .non H',rt:=Q} (L2.start N vs) H):bV P w K mg base (vm P w) (k+1) f fd ps sp:=by
 obtain⟨oc,od,kV,doc,pm,an,cdv,ct,osl,rfl,lk,hcd⟩:=F.ex;refine BU lk hcd S len λA outer s H vs Q E hr hsp=>?_;obtain⟨t,h,q⟩:=hbody cdv A outer s H vs Q E hr hsp;exact⟨t,A5 h,q⟩
end
inductive RX where
 |ok (d:D) (o:O)|exc (x:D)
abbrev F1:=O->List D->List D->Option RX
def zc(j a:Nat):Option Out->Option RX
 |some (.exc x)=>some (.exc x)
 |z=>(outP j a z).map λp=>.ok p.1 p.2
open Classical in
noncomputable def wO(j np n:Nat)(g:MC):F1:=λo ds es=>if ds.length=j/\j+1+es.length=np then(if h:∃r,∀a,zc j a (g (jT n a o ds es))=some r then some h.choose else none) else none
theorem qg{j np n:Nat}{g:MC}{o:O}{ds es:List D}{r:RX}(h:wO j np n g o ds es=some r):ds.length=j/\j+1+es.length=np/\∀a,zc j a (g (jT n a o ds es))=some r:=by
 unfold wO at h;split at h
 ·rename_i c;split at h
  ·rename_i x;cases h;exact⟨c.1,c.2,x.choose_spec⟩
  ·cases h
 ·cases h
theorem BW{j np n:Nat}{g:MC}{o:O}{ds es:List D}{r:RX}(h1:ds.length=j)(h2:j+1+es.length=np)(h:∀a,zc j a (g (jT n a o ds es))=some r):wO j np n g o ds es=some r:=by
 unfold wO;rw[if_pos ⟨h1,h2⟩];have x:∃r,∀a,zc j a (g (jT n a o ds es))=some r:=⟨r,h⟩;rw[dif_pos x,←h 0,x.choose_spec 0]
def gZ(i:Nat)(F:F1)(gs hs:List ME):MC:=λρ=>match ρ[i]? with
 |some (some (.own o))=>(aI gs ρ).bind λds=>(aI hs ρ).bind λes=>(F o.core ds es).map fun
  |.ok _ o'=>.next (ρ.set i (some (.own (o.put o'))))
  |.exc x=>.exc x
 |_=>none
inductive Ib(Γ:Ct)(F:F1)(vs:List V)(H:Hp)(Q:VK)(E:XK):Prop
 |mk (a:Addr) (xs ys:List V) (Hs:Hp) (o:O) (ho:HO) (ds es:List D) (r:RX) (ev:vs=xs++.ref a::ys) (sm:aB Hs H) (hs:Hs a=none) (hh:H a=some ho) (ro:cX Γ Hs a o ho) (r1:RepL Γ Hs ds xs) (r2:RepL Γ Hs es ys) (e:F o ds es=some r)
  (q:∀d o',r=.ok d o'->∀v Hs' H' ho',fR a Hs H Hs' H'->Hs' a=none->H' a=some ho'->cX Γ Hs' a o' ho'->Rep Γ Hs' d v->Q v H') (qx:∀x,r=.exc x->∀Hs' H',aW Hs (vQ H a) Hs' H'->WE Γ E x Hs' H') (tb:aB Γ.tb Hs)
def Ic(Γ:Ct)(F:F1):Sp:=λvs H Q E=>Ib Γ F vs H Q E
def F5(P:Program)(w:World)(K:Frag)(mg:Str->Option Value)(base:Heap)(Γ:Ct)(k:Nat)(x:Str)(ps:List Str)(F:F1):Prop:=
 ∃f fd,bV P w K mg base (vm P w) k f fd ps (Ic Γ F)/\mg x=some (.ref f)/\PySem.W.keepIn K (.ref f)=true/\bO K fd ps []
section
variable{P:Program}{w:World}{K:Frag}{mg:Str->Option Value}{base:Heap}{Γ:Ct}
theorem Jc{x qual:Str}{st:Stmt}{f:Addr}{fd:FuncData}{N ps:List Str}{k j:Nat}{g:MC}(F:sC K x qual st f fd)(S:ax N ps (a9 st))(hN:ps.length<=N.length)
  (body:∀(cdv:Value)(A:Around)(outer:List PySem.Env)(s:Shared)(H:Hp)(E:XK),ba k (A.deeper (envOfC qual (a9 st) s.heap.objs.size f cdv))->iC (vg P w K mg base N qual (a9 st) f cdv A outer s H E) Γ (WE Γ E) (ao st) g):
  bV P w K mg base (vm P w) (k+1) f fd ps (Ic Γ (wO j ps.length N.length g)):=by
 refine JJ F S (λvs H Q E ⟨a,xs,ys,Hs,o,ho,ds,es,r,ev,sm,hs,hh,ro,r1,r2,e,q,qx,tb⟩=>?_) (λcdv A outer s H vs Q E hr ⟨a,xs,ys,Hs,o,ho,ds,es,r,ev,sm,hs,hh,ro,r1,r2,e,q,qx,tb⟩=>?_)
 ·obtain⟨h1,h2,_⟩:=qg e;rw[ev,length_append,length_cons,←r1.length,←r2.length];omega
 ·obtain⟨h1,h2,h3⟩:=qg e;have h3:=h3 a;subst ev;refine⟨tS Γ (WE Γ E) g,body cdv A outer s H E hr,?_⟩;have re:=yL (N:=N) sm hs hh ro r1 r2 tb (by omega)
  cases h:g (jT N.length a o ds es) with
  |none=>rw[h] at h3;cases h3
  |some out=>
   rw[h] at h3;refine⟨Hs,vQ H a,Hs,jT N.length a o ds es,out,re,h,?_⟩;cases out with
   |next ρ'=>
    intro σ' Hs' H' _ re';obtain⟨p,h4,h5⟩:=Option.map_eq_some_iff.mp (show(outP j a (some (.next ρ'))).map (λp=>RX.ok p.1 p.2)=some r from h3);unfold outP at h4;dsimp only at h4;split at h4
    ·rename_i b u hd;split at h4
     ·rename_i hba;subst hba;cases h4;obtain⟨c,ho',f1,f2,f3,f4,f5⟩:=re'.own j _ hd;have f6:c=b/\cX Γ Hs' c u ho':=f5;obtain⟨z,f7⟩:=f6;subst z;exact q _ _ h5.symm .non Hs' H' ho' (uG re'.b f3) f3 f4 f7 (bc.mpr rfl)
     ·cases h4
    ·cases h4
   |brk ρ'=>cases h3
   |cont ρ'=>cases h3
   |ret s=>
    obtain⟨p,h4,h5⟩:=Option.map_eq_some_iff.mp (show(outP j a (some (.ret s))).map (λp=>RX.ok p.1 p.2)=some r from h3);cases s with
    |sh _=>cases h4
    |own _=>cases h4
    |two d1 b o1=>
     unfold outP at h4;dsimp only at h4;split at h4
     ·rename_i hba;subst hba;cases h4;intro v Hs' H' _ g' rs;obtain⟨rp,ho',z1,z2,z3⟩:=rs;exact q _ _ h5.symm v Hs' H' ho' (uG g' z1) z1 z2 z3 rp
     ·cases h4
   |exc x=>
    cases h3;exact λHs' H' _ g'=>qx x rfl Hs' H' g'
theorem zM{x:Str}{st:Stmt}{N ps:List Str}{k j:Nat}{g:MC}(L:bu K mg x st ps)(S:ax N ps (a9 st))(hN:ps.length<=N.length)
  (body:∀(f:Addr)(cdv:Value)(A:Around)(outer:List PySem.Env)(s:Shared)(H:Hp)(E:XK),ba k (A.deeper (envOfC x (a9 st) s.heap.objs.size f cdv))->iC (vg P w K mg base N x (a9 st) f cdv A outer s H E) Γ (WE Γ E) (ao st) g):
  F5 P w K mg base Γ (k+1) x ps (wO j ps.length N.length g):=by
 obtain⟨f,fd,F,hm,hb⟩:=L.ex;exact⟨f,fd,Jc F S hN (body f),hm,F.kp,hb⟩
end
section
variable{X:Cx}{Γ:Ct}{E:XK}{k i:Nat}{ps:List Str}{x:Str}{p pos epos:Pos}{e:Expr}{es:List Expr}{gs hs:List ME}{F:F1}
theorem sZ{ρ:av}{out:Out}(h:gZ i F gs hs ρ=some out):∃o ds es r,ρ[i]?=some (some (.own o))/\aI gs ρ=some ds/\aI hs ρ=some es/\F o.core ds es=some r/\((∃d o',r=.ok d o'/\out=.next (ρ.set i (some (.own (o.put o')))))\/∃x,r=.exc x/\out=.exc x):=by
 unfold gZ at h;split at h
 ·rename_i o ho;obtain⟨ds,h1,h⟩:=Option.bind_eq_some_iff.mp h;obtain⟨es,h2,h⟩:=Option.bind_eq_some_iff.mp h;obtain⟨r,h3,h⟩:=Option.map_eq_some_iff.mp h;refine⟨o,ds,es,r,ho,h1,h2,h3,?_⟩;cases r with
  |ok d o'=>cases h;exact .inl ⟨d,o',rfl,rfl⟩
  |exc x=>cases h;exact .inr ⟨x,rfl,rfl⟩
 ·cases h
theorem pL(h:F5 X.prog X.w X.K X.mg X.base Γ k x ps F)(hr:ba k X.A)(hg:Gl X x)(hp:jd (vm X.prog X.w) X E)(ha:PA X (e::es) (lZ Γ i hs gs))(hdb:(x == ("__debug__":Str))=false:=by decide)(he:starEach (e::es) X.env=(false,eval e X.env)::starEach es X.env:=by rfl)(hpl:(backTo pos (starEach es X.env)).any (·.1)=false:=by rfl)
  (hs':swapsWith (.Call (.Name x p) (e::es) [] pos) none epos.line X.env=pure false:=by rfl):vd X Γ (WE Γ E) (.Expr (.Call (.Name x p) (e::es) [] pos) epos) (gZ i F gs hs):=by
 obtain⟨f,fd,G,hm,hk,hb⟩:=h;refine PS.imp (mF (r6 (E:=E) (dvs:=[]) (ds:=[]) G hr hg hm hk hb .nil hp ha hdb he hpl) hs') λ_ _ σ H D I ⟨B0,B1,Hs,ρ,out,re,e,q⟩=>?_;obtain⟨o,ds,es',r,hd,e1,e2,e3,e4⟩:=sZ e;obtain⟨a,ho,f1,f2,f3,f4,f5⟩:=re.own i o hd;refine kd gs (λvs H1 ⟨Hs1,xs,ys,g1,ev,r1,r2⟩=>?_) (oo gs re e1 e2 f1);show Ib Γ F (vs++[]) H1 _ E;rw[append_nil];have re1:=re.grow g1;refine⟨a,xs,ys,Hs1,o.core,ho,ds,es',r,ev,re1.b.i,g1.none f3 f4,g1.h _ _ f4,(f5.mono g1.s).core,r1,r2,e3,λd o' hr' v Hs' H' ho' gx hn hh ro rp=>?_,λy hr' Hs' H' gx=>?_,re1.tb⟩
 ·rcases e4 with⟨d2,o2,z1,z2⟩|⟨y,z1,z2⟩
  ·rw[hr'] at z1;cases z1;subst z2;exact q σ Hs' H' (g1.s.trans gx.s) (re1.called hd f1 gx hn hh (cX.put f5 ro))
  ·rw[hr'] at z1;cases z1
 ·rcases e4 with⟨d2,o2,z1,z2⟩|⟨y2,z1,z2⟩
  ·rw[hr'] at z1;cases z1
  ·rw[hr'] at z1;cases z1;subst z2;have g2:aW B0 B1 Hs' H':=by
    have b1:=re1.b;refine⟨b1.s.trans gx.s,λb u z=>gx.h b u ?_,gx.i,λb u z=>?_⟩
    ·have nb:b≠a:=λy=>by rw[y,f2] at z;cases z
     rw[ko nb];exact b1.h b u z
    ·rcases gx.n b u z with y|y
     ·exact b1.n b u y
     ·by_cases nb:b=a
      ·rw[nb];exact .inr f2
      ·rw[ko nb] at y;exact .inr (by
        cases w:B1 b with
        |none=>rfl
        |some ww=>rw[b1.h b ww w] at y;cases y)
   exact q Hs' H' (g1.s.trans gx.s) g2
end
def qP(c:String)(f:Str)(g:ME):MC:=λρ=>match g ρ with
 |some (.ok (.sh (.int n)))=>some (.exc (wR c f n))
 |_=>none
section
variable{X:Cx}{Γ:Ct}{E:XK}{c:String}{fI:Addr}{f nm:Str}{fd:FuncData}{ps:List Str}{k:Nat}{p cpos pos:Pos}{e:Expr}{g:ME}
theorem yO(x:XC X.K (Γ.cls c) fI f)(G:bV X.prog X.w X.K X.mg X.base jg k fI fd ps (D7 (Γ.cls c) f))(hr:ba (k+1) X.A)(hg:Gl X nm)(hm:X.mg nm=some (.ref (Γ.cls c)))(hb:bO X.K fd ps [])(hcalm:X.calm=true)(hx:X.ex=[])(hst:X.stack=X.env::X.outer)(hf:X.env.frame=some X.env.locals)
  (hle:∀ev s',XE X E ev s'->X.xe ev s') (ha:PD X Γ W0 e g) (hdb:(nm == ("__debug__":Str))=false:=by decide) (he:starEach [e] X.env=(false,eval e X.env)::starEach [] X.env:=by rfl) (hpl:(backTo cpos (starEach [] X.env)).any (·.1)=false:=by rfl):
  vd X Γ (WE Γ E) (.Raise (some (.Call (.Name nm p) [e] [] cpos)) none pos) (qP c f g):=by
 refine PS.imp (AA x G hr hg hm hb hcalm hx hst hf hle (bF ha eY he) hdb he hpl) λ_ _ σ H D I ⟨B0,B1,Hs,ρ,out,re,ee,q⟩=>?_;unfold qP at ee;split at ee
 ·rename_i n hn;cases ee;refine⟨B0,B1,Hs,ρ,_,re,hn,λv Hs' H' g' rs=>?_⟩;have rv:Rep Γ Hs' (.int n) v:=rs;refine⟨v,rfl,λdx hd=>?_⟩;rw[ai.mp rv];exact q Hs' H' g'.s (re.b.trans g') c f n dx rfl hd
 ·cases ee
end
end L3
namespace L2
open PySem PySem.Spec PyProof.Rows
section
variable{prog:Program}{w:World}{A:Around}{E:Value->Shared->Prop}{s:Shared}{d it:Addr}{od:Obj}{es:Array DictEntry}{ep:Nat}
theorem A6(hh:A.handled=none)(ne:d≠it)(dt:od.data=.dict es ep):Walks prog w A it [it,d] [it] es.size (λi v=>es[i]?.map (·.key)=some v) (λi h=>h.IsKeyIter it d i es.size ep/\h.get? d=some od) where
 sub:=λb hb=>by rw[mem_singleton.mp hb];simp
 frame:=λi h h' st k=>⟨let ⟨o,e,x⟩:=st.1;⟨o,k it (by simp) o e,x⟩,k d (by simp) _ st.2⟩
 item:=λi s Q E hi st hQ=>by
  have hx:es[i]?=some es[i]:=Array.getElem?_eq_getElem hi;exact Ew st.1 st.2 dt hx λh' i1 sb=>hQ _ h' s.toks (by rw[hx];rfl) ⟨i1,sb.extBut _ _ ne st.2⟩ λb o hb e=>sb.extBut b o (by simpa using hb) e
 done:=λs Q E st hQ=>Et hh st.1 st.2 dt (le_refl _) λh' kp=>hQ h' s.toks λb o hb e=>kp b o (by simpa using hb) e
 self:=λ_ _ _ _ st h=>wpAny_pyIter_keyiter st.1 h
theorem GJ(lo:(d == sysModules)=false)(ex:od.ExactDict)(dt:od.data=.dict es ep):PySem.W.KdlSrc prog w "dict" d d es.size (λi v=>es[i]?.map (·.key)=some v) (λh=>h.get? d=some od) where
 type:=λs e=>⟨od,e,ex.1⟩
 there:=λh e=>⟨lt_size e,lt_size e⟩
 keep:=λh h' e k=>k d (.inl rfl) _ e
 notList:=by decide
 notTuple:=by decide
 hint:=λA E s Q e hq=>PySem.W.kdl_hint_dict ⟨od,e,ex.1⟩ hq
 iter:=λA s hh e=>⟨_,_,(λE Q hq=>Eu lo e ex dt hq),A6 hh (ne_of_lt (lt_size e)) dt,⟨⟨_,get?_push_size _ rfl,rfl,rfl⟩,get?_push_of_some _ e⟩⟩
end
end L2
namespace L3
open PySem PySem.Spec PyProof.Rows L2
def qh(i:Nat):ME:=λρ=>(fY i ρ).bind λp=>okL (p.2.map (·.1))
theorem GE{i:Nat}{ρ:av}{o:O}{kvs:Td}(h:ρ[i]?=some (some (.own o)))(hc:o.core=.tab kvs):qh i ρ=okL (kvs.map (·.1)):=by unfold qh;rw[kL h hc];rfl
section
variable{X:Cx}{Γ:Ct}{W:XW}
theorem wY{i:Nat}{ρ:av}{r:R}(h:qh i ρ=some r):∃o kvs,ρ[i]?=some (some (.own o))/\o.core=.tab kvs/\r=.ok (.own (.lst (kvs.map (·.1)))):=by
 unfold qh at h;cases z:fY i ρ with
 |none=>rw[z] at h;cases h
 |some p=>
  rw[z] at h;obtain⟨o,kvs⟩:=p;obtain⟨h1,h2⟩:=fL z;cases h;exact⟨o,kvs,h1,h2,rfl⟩
theorem pB{H:Hp}:∀{kvs:List (D×D)}{xs:List (D×Addr×Value)},fP Γ H kvs xs->RepL Γ H (kvs.map (·.1)) (xs.map λx=>V.ref x.2.1)
 |_,_,.nil=>.nil
 |_,_,.cons z t=>.cons (by obtain⟨e,_,r,_⟩:=z;exact r) (pB t)
theorem pA:∀{xs:List (D×Addr×Value)}{us:List Value},us.length=xs.length->(∀(j:Nat)(u:Value),us[j]?=some u->∃x,xs[j]?=some x/\u=.ref x.2.1)->Vals (xs.map λx=>V.ref x.2.1) us
 |[],[],_,_=>.nil
 |x::xs,u::us,hl,h=>by
  obtain⟨x',e1,e2⟩:=h 0 u rfl;cases e1;exact .cons e2 (pA (by simpa using hl) λj u' e=>h (j+1) u' e)
theorem AQ{i:Nat}{x:Str}{px p pos:Pos}(hc:X.calm=true)(hg:Gl X "list")(hm:X.mg "list" = none)(hv:PE X (.Name x px) (jD i))
  (hs3:starEach [.Name x px] X.env=(false,eval (.Name x px) X.env)::starEach [] X.env:=by rfl) (hs0:starEach [] X.env=[]:=by rfl) (hpl2:(backTo pos (starEach [] X.env)).any (·.1)=false:=by rfl):
  PD X Γ W (.Call (.Name "list" p) [.Name x px] [] pos) (qh i):=by
 intro pins s σ H Q I ⟨B0,B1,Hs,ρ,r,re,e,q⟩;obtain⟨o,kvs,hd,ec,rfl⟩:=wY e;obtain⟨a,ho,e1,e2,e3,e4,hq⟩:=re.own i _ hd;obtain⟨xs,rfl,tr⟩:=hq.tab ec;refine wpAny_Call_Name_kw (iX I hg hm uZ (PyProof.Rows.callWith_type1 ?_ hs3 hpl2) (by decide) (by decide))
 rw[hs3];show wpAny _ _ (spliced ((false,eval (.Name x px) X.env)::backTo pos (starEach [] X.env))) _ _ s;refine Calls.spliced_cons (bW (hv pins s σ H (λv H2=>v=.ref a/\H2=H) I ⟨_,e1,rfl,rfl⟩) λu s1 ⟨z,H1,I1,rz,z5,z6⟩=>?_);subst z5 z6;cases rz;obtain⟨⟨⟨x1,x2,x3⟩,ob,es,ep,h1,h2,h3,h4⟩,_,_⟩:=(show aY X.prog X.w H1 s1.heap a (.ext (fU a xs)) from I1.hok a _ e4);have hsz:es.size=xs.length:=by rw[←length_toList,h4,length_map]
 rw[hs0];refine Calls.spliced_nil ?_;refine PySem.W.kdl_call (GJ x1 h2 h3) (I1.ok.hd hc) h1 (by rw[hsz];exact x2) λh' tk acc c hk hS hacc=>?_
 have vk:Vals (xs.map λx=>V.ref x.2.1) acc.toList:=pA (by rw[length_toList,hacc.1,hsz]) λj u hu=>by
  have:es[j]?.map (·.key)=some u:=hacc.2 j u (by rw[←getElem?_toList];exact hu)
  rw[←getElem?_toList,h4,getElem?_map] at this;cases z:xs[j]? with
  |none=>rw[z] at this;cases this
  |some y=>rw[z] at this;cases this;exact⟨y,rfl,rfl⟩
 have fS:H1 s1.heap.objs.size=none:=I1.hok.fresh (le_refl _);have I2:=I1.laid (a:=s1.heap.objs.size) (o:=.lst (xs.map λx=>V.ref x.2.1)) (h':=h') (t':=tk) hk (le_refl _) ⟨by rw[length_map];exact x2,acc.toList,c,vk,by rw[Array.toArray_toList];exact hS⟩
 have sm:=re.b.i;have fSs:Hs s1.heap.objs.size=none:=sm.free fS;refine⟨.ref s1.heap.objs.size,_,I2,rfl,q (.ref s1.heap.objs.size) Hs _ ⟨.refl _,bB fS,λb o z=>?_,λb o z=>.inl z⟩ (Ht.mk _ _ rfl fS fSs aq ⟨_,rfl,pB tr⟩)⟩;rw[ak (aC z fSs)];exact sm _ _ z
end
section
variable{X:Cx}{Γ:Ct}{W:XW}{i:Nat}{x:Str}{px apos cpos pos pos' zpos:Pos}{k e:Expr}{gk ge:ME}
theorem fP.val{H:Hp}{kvs:List (D×D)}{xs:List (D×Addr×Value)}(r:fP Γ H kvs xs)(k:D):(fX kvs k=none/\atKey xs k=none)\/∃d v q,fX kvs k=some d/\atKey xs k=some q/\RelV v q.2/\Rep Γ H d v:=by
 unfold fP at r
 induction r with
 |nil=>exact .inl ⟨rfl,rfl⟩
 |@cons p q ps qs h t ih=>
  unfold fX atKey at ih ⊢;rw[find?_cons,find?_cons,←h.1];by_cases e:p.1=k
  ·rw[decide_eq_true e];obtain⟨_,_,_,v,h1,h2⟩:=h;exact .inr ⟨_,v,_,rfl,rfl,h1,h2⟩
  ·rw[decide_eq_false e];exact ih
end
def vh(g:ME):ME:=λρ=>match g ρ with
 |some (.ok s)=>some (.ok s)
 |_=>none
theorem Jg{g:ME}{ρ:av}{s:S}(h:g ρ=some (.ok s)):vh g ρ=some (.ok s):=by unfold vh;rw[h]
section
variable{X:Cx}{Γ:Ct}{W:XW}{e:Expr}{g:ME}
theorem tG(h:PD X Γ W0 e g):PD X Γ W e (vh g):=PE.imp h λ_ _ σ H Q _ ⟨B0,B1,Hs,ρ,r,re,e,q⟩=>by
 unfold vh at e;split at e
 ·rename_i s hs;cases e;exact⟨B0,B1,Hs,ρ,_,re,hs,q⟩
 ·cases e
end
structure CD(K:Frag)(mg:Str->Option Value)(cls:String->Addr)(c:String)(x qual:Str)(f y:Str)(st:Stmt):Prop where
 ex:∃fI fd,XC K (cls c) fI f/\sC K "__init__" qual st fI fd/\bO K fd [("self":Str),y] []
 at_:mg x=some (.ref (cls c))
def F6(P:Program)(w:World)(K:Frag)(mg:Str->Option Value)(base:Heap)(Γ:Ct)(c:String)(x:Str)(f:Str):Prop:=
 ∃fI fd ps,XC K (Γ.cls c) fI f/\bV P w K mg base jg 1 fI fd ps (D7 (Γ.cls c) f)/\mg x=some (.ref (Γ.cls c))/\bO K fd ps []
def pq(P:Program)(w:World)(K:Frag)(mg:Str->Option Value)(base:Heap)(Γ:Ct)(k:Nat)(x:Str)(ps:List Str)(F:List D->Option R)(n:Int):Prop:=
 ∃f fd t,bV P w K mg base (vm P w) k f fd ps (KE Γ F)/\mg x=some (.ref f)/\PySem.W.keepIn K (.ref f)=true/\bO K fd ps []/\bO K fd ps [.int n t]
section
variable{P:Program}{w:World}{K:Frag}{mg:Str->Option Value}{base:Heap}{Γ:Ct}
theorem C7{c:String}{x qual f y:Str}{st:Stmt}{p1 p2 p3 p4:Pos}(L:CD K mg Γ.cls c x qual f y st)(S:ax [("self":Str),y] [("self":Str),y] (a9 st))
  (hb:ao st=[.Assign [.Attribute (.Name "self" p1) f p2] (.Name y p3) p4]) (v0:qy (a9 st) "self") (v1:qy (a9 st) y) (hd:(y == ("__debug__":Str))=false) (hcd:(y == ("__classdict__":Str))=false)
  (hs:∀env:PySem.Env,swapsWith (.Name y p3) (some (.Attribute (.Name "self" p1) f p2)) p4.line env=pure false):F6 P w K mg base Γ c x f:=by
 obtain⟨⟨fI,fd,xc,F,bi⟩,a⟩:=L;exact⟨fI,fd,_,xc,Eh F S xc hb v0 v1 hd hcd hs,a,bi⟩
theorem Bx{h:Heap}(X:K.In h)(G:h.Ns mainGlobals mg){cls:String->Addr}{cn:String}{C:Addr}(ec:cls cn=C){x qual f y:Str}{st:Stmt}{fI:Addr}{oc:Value}{od an:Option Addr}{osl:Array (Option Value)}{kV doc pm cdv ct:Value}
  (a:PySem.W.nsIn K mainGlobals x=some (some (.ref C))) (l:K.lookup fI=some ⟨oc,od,.func (fnOf "__init__" qual (aw st) (ao st) (a9 st) .none kV doc pm an cdv ct),osl⟩) (c:codeIn K cdv qual=true) (k:PySem.W.keepIn K (.ref fI)=true)
  (x1:yn K C fI=true) (x2:PySem.W.typeIn K (.ref fI)=some (.type "function")) (x3:PySem.W.findIn K (.ref C) "__setattr__" = some (some (.builtin "object.__setattr__"))) (x4:PySem.W.findIn K (.ref C) "__getattribute__" = some (some (.builtin "BaseException.__getattribute__")))
  (x5:PySem.W.findIn K (.ref C) "__getattr__" = some none) (x6:PySem.W.findIn K (.ref C) f=some none) (x7:PySem.W.keepIn K (.ref C)=true)
  (hb:∀(kV doc pm:Value)(an:Option Addr)(cdv ct:Value)(us:List Value),us.length=2->bindArgs (fnOf "__init__" qual (aw st) (ao st) (a9 st) .none kV doc pm an cdv ct) ⟨us,[]⟩=pure ([("self":Str),y].zip us)):CD K mg cls cn x qual f y st:=by
 subst ec;exact⟨⟨fI,_,⟨x1,x2,x3,x4,x5,x6,x7⟩,gu l c k,(gu l c k).binds hb⟩,mg_of X G a⟩
theorem pq.all{k:Nat}{x:Str}{ps:List Str}{F:List D->Option R}{n:Int}(h:pq P w K mg base Γ k x ps F n):Ky P w K mg base Γ k x ps F:=by
 obtain⟨f,fd,t,G,hm,hk,hb,_⟩:=h;exact⟨f,fd,G,hm,hk,hb⟩
theorem lC{x:Str}{st:Stmt}{N ps:List Str}{k:Nat}{g:MC}{n:Int}(L:ma K mg x st ps n)(S:ax N ps (a9 st))
  (body:∀(f:Addr)(cdv:Value)(A:Around)(outer:List PySem.Env)(s:Shared)(H:Hp)(E:XK),ba k (A.deeper (envOfC x (a9 st) s.heap.objs.size f cdv))->iC (vg P w K mg base N x (a9 st) f cdv A outer s H E) Γ (WE Γ E) (ao st) g):
  pq P w K mg base Γ (k+1) x ps (gv ps.length N.length g) n:=by
 obtain⟨f,fd,t,F,hm,hb,hb2⟩:=L.ex;refine⟨f,fd,t,?_,hm,F.kp,hb,hb2⟩;obtain⟨oc,od,dV,kV,doc,pm,an,cdv,ct,osl,rfl,lk,hcd⟩:=F.ex;refine BU lk hcd S (λvs H Q E ⟨Hs,ds,r,sm,rl,e,q,tb⟩=>?_) (λA outer s H vs Q E hr ⟨Hs,ds,r,sm,rl,e,q,tb⟩=>?_)
 ·rw[←rl.length];exact(kH e).1
 ·obtain⟨_,e⟩:=kH e;refine⟨tS Γ (WE Γ E) g,A5 (body f cdv A outer s H E hr),?_⟩;cases h:g (aN N.length ds) with
  |none=>rw[h] at e;cases e
  |some o=>
   rw[h] at e;refine⟨Hs,H,Hs,aN N.length ds,o,gF sm rl tb,h,?_⟩;cases o with
   |next ρ'=>cases e;exact λσ' Hs' H' _ re=>q .non Hs' H' re.b (bH.of (bc.mpr rfl))
   |brk ρ'=>cases e
   |cont ρ'=>cases e
   |ret s=>cases e;exact λv Hs' H' _ g' rs=>q v Hs' H' g' rs
   |exc x=>cases e;exact λHs' H' _ g'=>q Hs' H' g'
end
section
variable{X:Cx}{Γ:Ct}{E:XK}{c:String}{f nm:Str}{k:Nat}{p cpos pos:Pos}{e:Expr}{g:ME}
theorem vT(h:F6 X.prog X.w X.K X.mg X.base Γ c nm f)(hr:ba 2 X.A)(hg:Gl X nm)(hcalm:X.calm=true)(hx:X.ex=[])(hst:X.stack=X.env::X.outer)(hf:X.env.frame=some X.env.locals)
  (hle:∀ev s',XE X E ev s'->X.xe ev s') (ha:PD X Γ W0 e g) (hdb:(nm == ("__debug__":Str))=false:=by decide) (he:starEach [e] X.env=(false,eval e X.env)::starEach [] X.env:=by rfl) (hpl:(backTo cpos (starEach [] X.env)).any (·.1)=false:=by rfl):
  vd X Γ (WE Γ E) (.Raise (some (.Call (.Name nm p) [e] [] cpos)) none pos) (qP c f g):=by
 obtain⟨fI,fd,ps,x,G,hm,hb⟩:=h;exact yO x G hr hg hm hb hcalm hx hst hf hle ha hdb he hpl
end
section
variable{P:Program}{w:World}{K:Frag}{mg:Str->Option Value}{base:Heap}{N:List Str}{qual:Str}{scope:Scope}{f:Addr}{cd:Value}{A:Around}{outer:List PySem.Env}{s:Shared}{H:Hp}{E:XK}
theorem mv:PassesOwn (model (vg P w K mg base N qual scope f cd A outer s H E).prog (vg P w K mg base N qual scope f cd A outer s H E).w) (vg P w K mg base N qual scope f cd A outer s H E).A (vg P w K mg base N qual scope f cd A outer s H E).env (vg P w K mg base N qual scope f cd A outer s H E).xe:=
 qC (X:=iB (vm P w) P w K mg base N qual scope f cd A outer s H E) rfl rfl
theorem ki:jd (vm (vg P w K mg base N qual scope f cd A outer s H E).prog (vg P w K mg base N qual scope f cd A outer s H E).w) (vg P w K mg base N qual scope f cd A outer s H E) E:=λ_ _ _ _ _ _ I h=>
 CL (X:=vg P w K mg base N qual scope f cd A outer s H E) rfl rfl rfl I h
theorem FG:∀ev s',XE (vg P w K mg base N qual scope f cd A outer s H E) E ev s'->(vg P w K mg base N qual scope f cd A outer s H E).xe ev s':=λ_ _ h=>h
end
end L3
namespace L2
open PySem PySem.Spec PyProof.Rows PySem.W
section
variable{prog:Program}{w:World}{A:Around}{E:Value->Shared->Prop}{s:Shared}{K:Frag}{C e:Addr}{oe:Obj}{vs:Array Value}{cd:ClassData}{bm:List Value}{B:String}
theorem CQ{dx:Addr}{od:Obj}{Q:Option Value->Shared->Prop}(X:K.In s.heap)(hx:s.heap.get? e=some oe)(hc:oe.cls=.ref C)(hd:oe.dict=some dx)(ho:s.heap.get? dx=some od)(hv:oe.data=.fields vs)(FA:ExcAttrBase B bm)(hC:clsIn K C=some cd)(hh:cd.hasDict=true)(ht:Aa bm cd.mro=true)
  (hga:findIn K (.ref C) "__getattribute__" = some (some (.builtin "BaseException.__getattribute__"))) (hgg:findIn K (.ref C) "__getattr__" = some none)
  (hcl:findIn K (.ref C) "__class__" = some (some (.builtin "object.__class__"))) (hn:specialIn K (.builtin "object.__class__") "__get__" = some (some (.builtin "getset_descriptor.__get__"))) (htk:takesIn K (.builtin "object.__class__")=some true) (hm:mroIn K C (.type "object")=some true)
  (h:Q (some (.ref C)) {s with toks:=s.toks+1}):wpAny (model prog w) A (getAttr? (.ref e) "__class__") Q E s:=by
 have I:InstAt s.heap e oe C (some od):=⟨hx,hc,by unfold notCls;rw[hv],by rw[hd];exact ho⟩
 obtain⟨hp,g,d,t,os⟩:=s;have L0:=I.type (M:=model prog w);have L1:=looks_findIn (M:=model prog w) X hga;have L2:=looks_find (M:=model prog w) X I (findObj_data (by rw[hC];rfl) hcl hn htk)
 have L3:=looks_findIn (M:=model prog w) X hgg;have ne:cd.mro.isEmpty=false:=by
  have:=gV FA.hasBase ht;cases q:cd.mro with
  |nil=>rw[q] at this;cases this
  |cons _ _=>rfl
 have sub:Looks (model prog w) hp (isInstance (.ref e) (.type "BaseException")) true:=I.type.andThen (looks_mroIn X (by unfold mroIn;rw[hC,Option.bind_some,if_neg (by rw[ne];decide),gV FA.hasBase ht]))
 unfold getAttr? getAttrBy?;refine wpAny_bind (wpAny_mkText (wpAny_bind (wpAny_attempt ?_)));unfold getAttrBy;refine wpAny_holding (wpAny_bind (L0.at (wpAny_bind (L1.at ?_))));dsimp only;have z1:(onTheHeap (Value.ref C) && Value.builtin "BaseException.__getattribute__" == Value.builtin "object.__getattribute__")=false:=by
  rw[show(Value.builtin "BaseException.__getattribute__" == Value.builtin "object.__getattribute__")=false from by decide +kernel];exact Bool.and_false _
 rw[if_neg (by rw[z1];exact Bool.false_ne_true)]
 unfold getAttrByItsOwn;have f3:=FA.ga.bind (.ref e)
 repeat (any_goals (first|assumption|(with_reducible refine L3.at ?_)|wp_step))
 refine codeAny_call_builtin FA.ga.plain PySem.F.entry_bexc_ga (@check_slot (model prog w) _ _ ⟨hp,g,d,t+1,os⟩ "BaseException.__getattribute__" "BaseException" "__getattribute__" (.ref e) [.str "__class__" t] [] _ (by decide +kernel) (by decide +kernel) sub (PySem.F.args_bexc_ga (.ref e) (.str "__class__" t)) ?_)
 refine wpAny_bind (wpAny_pure (wpAny_bind (wpAny_pure (wpAny_bind (L0.at (wpAny_bind (L2.at ?_)))))));show wpAny _ _ (do let r ←holding [Value.builtin "object.__class__"] (call (Value.builtin "getset_descriptor.__get__") [Value.builtin "object.__class__",.ref e,.ref C]);ret r) _ _ _
 refine wpAny_bind (wpAny_holding (wpAny_call (class_get (s:=⟨hp,g,d,t+1,os⟩) X I hm ?_)));exact wpAny_pure (wpAny_pure (wpAny_pure h))
theorem nY(h:clsIn K C=some cd):∃o,K.lookup C=some o/\o.data=.cls cd:=by
 unfold clsIn at h;split at h
 ·rename_i l;cases h;exact⟨_,l,rfl⟩
 ·cases h
structure XT(K:Frag)(C:Addr):Prop where
 cl:findIn K (.ref C) "__class__" = some (some (.builtin "object.__class__"))
 sp:specialIn K (.builtin "object.__class__") "__get__" = some (some (.builtin "getset_descriptor.__get__"))
 tk:takesIn K (.builtin "object.__class__")=some true
 mr:mroIn K C (.type "object")=some true
theorem BA{fI:Addr}{f:Str}{dx:Addr}(x:XC K C fI f)(t:XT K C)(hc:oe.cls=.ref C)(hd:oe.dict=some dx)(hv:oe.data=.fields vs):KitX K (.ref e) (.ref C) (λh=>h.get? e=some oe/\∃od,h.get? dx=some od):=by
 obtain⟨cd,c1,c2,c3⟩:=x.cd;have it:∀h,∀od,h.get? e=some oe->h.get? dx=some od->InstAt h e oe C (some od):=λh od hx ho=>⟨hx,hc,by unfold notCls;rw[hv],by rw[hd];exact ho⟩
 refine⟨λM h X ⟨hx,od,ho⟩=>(it h od hx ho).type,λM h X _=>?_,λh tp dd its n sl X ht=>?_,λX ⟨hx,od,ho⟩ q=>CQ X hx hc hd ho hv PySem.F.attrBase_ValueError c1 c2 c3 x.ga x.gg t.cl t.sp t.tk t.mr q⟩
 ·intro A Q E s hk q;obtain⟨o,l,dt⟩:=nY c1;unfold isType;refine wpAny_bind (wpAny_loadPart (hk _ _ (X _ _ l)) (wpAny_pure ?_));rw[dt];exact q
 ·obtain⟨o,l,dt⟩:=nY c1;have:=X _ _ l;by_cases z:C=tp
  ·subst z;rw[ht] at this;cases this;cases dt
  ·simpa using z
end
end L2
namespace L3
open PySem PySem.Spec PyProof.Rows L2
section
variable{X:Cx}{Γ:Ct}{E:XK}{k:Nat}{x:Str}{ps:List Str}{F:List D->Option R}{p pos:Pos}{e:Expr}{es:List Expr}{gs:List ME}{n:Int}
theorem tJ(h:Ky X.prog X.w X.K X.mg X.base Γ k x ps F)(hr:ba k X.A)(hg:Gl X x)(hp:jd (vm X.prog X.w) X E)(ha:kh X Γ (WE Γ E) (e::es) gs)(hdb:(x == ("__debug__":Str))=false:=by decide)(he:starEach (e::es) X.env=(false,eval e X.env)::starEach es X.env:=by rfl)(hpl:(backTo pos (starEach es X.env)).any (·.1)=false:=by rfl):
  PD X Γ (WE Γ E) (.Call (.Name x p) (e::es) [] pos) (au F gs):=by
 obtain⟨f,fd,G,hm,hk,hb⟩:=h;exact PE.imp (r6 (E:=E) (dvs:=[]) (ds:=[]) G hr hg hm hk hb .nil hp ha hdb he hpl) λ_ _ _ _ _ _ t=>bz gs (λvs H1 z=>by show yF Γ (WE Γ E) F (vs++[]) H1 _;rw[append_nil];exact z) (ji t)
end
end L3
namespace L2
open PySem PySem.Spec PyProof.Rows PySem.W
structure XB(K:Frag)(B:Addr):Prop where
 cl:(clsIn K B).isSome=true
 ty:typeIn K (.ref B)=some (.type "type")
 mr:mroIn K B (.type "BaseException")=some true
section
variable{M:Model}{A:Around}{E:Value->Shared->Prop}{s:Shared}{K:Frag}{B C e:Addr}{oe:Obj}{Q:Bool->Shared->Prop}
theorem yo(X:K.In s.heap)(b:XB K B){od:Option Obj}(I:InstAt s.heap e oe C od)(hm:mroIn K C (.ref B)=some true)(h:Q true s):wpAny M A (excMatches (.ref e) (.ref B)) Q E s:=by
 obtain⟨cd,hcd⟩:=Option.isSome_iff_exists.mp b.cl;obtain⟨o,l,dt⟩:=nY hcd;have l1:Looks M s.heap (isInstance (.ref B) (.type "tuple")) false:=(looks_typeIn X b.ty).andThen (.of_pure tc_notTuple);have l2:Looks M s.heap (isType (.ref B)) true:=λA Q E s' hk q=>by
  unfold isType;refine wpAny_bind (wpAny_loadPart (hk _ _ (X _ _ l)) (wpAny_pure ?_));rw[dt];exact q
 have l3:Looks M s.heap (isExcClass (.ref B)) true:=l2.andThen (looks_mroIn X b.mr);have l4:Looks M s.heap (typeOf (.ref e)) (.ref C):=I.type;have l5:=looks_mroIn (M:=M) X hm;unfold excMatches;refine wpAny_bind (l1.here ?_);rw[if_neg (by decide)]
 refine wpAny_bind (wpAny_pure ?_);dsimp only;rw[forIn_cons];refine wpAny_bind (wpAny_bind (wpAny_bind (l3.here ?_)));rw[if_neg (by decide)]
 refine wpAny_pure ?_;dsimp only;rw[List.forIn_nil];refine wpAny_pure (wpAny_bind (l4.here (wpAny_bind ?_)));rw[forIn_cons];refine wpAny_bind (wpAny_bind (l5.here ?_));rw[if_pos rfl];exact wpAny_pure (wpAny_pure (wpAny_pure h))
end
section
variable{X:Cx}{pins:List (Addr×Obj)}{σ σ1:St}{H H1:Hp}{s s1:Shared}{e:Addr}{oe:Obj}{vs:Array Value}
theorem ay.hold(I1:ay X pins σ1 H1 s1)(I:ay X pins σ H s)(hx:X.ex=[])(nw:s1.heap.get? e=none)(he:s.heap.get? e=some oe)(hn:H e=none):ay X pins σ (aS H e (XO e oe)) s:=by
 have ne:∀b o,H b=some o->b≠e:=λb o z y=>by rw[y,hn] at z;cases z
 have up:∀b o,H b=some o->aS H e (XO e oe) b=some o:=λb o z=>by rw[ak (ne b o z)];exact z
 have no:∀b,H b=none->b≠e->aS H e (XO e oe) b=none:=λb z y=>by rw[ak y];exact z
 have n1:∀b o,s1.heap.get? b=some o->b≠e:=λb o z y=>by rw[y,nw] at z;cases z
 have B1:=I1.base;rw[hx] at B1;refine⟨I.ok,I.os,I.bare,⟨I.base.keep,I.base.slot,λb o z n x=>no b (I.base.free b o z n x) ?_,I.base.there,λb xs z=>up b _ (I.base.tups b xs z),λb o u z=>up b _ (I.base.frzs b o u z),λb ps z=>?_⟩,I.loc,I.cell,no _ I.free ?_,λx c z=>no _ (I.freeC x c z) ?_,λp hp=>?_,λb o z=>?_,I.len⟩
 ·obtain⟨o',z'⟩:=B1.there b o z (by simp)
  exact n1 b o' z'
 ·obtain⟨m,z'⟩:=I.base.tbls b ps z;exact⟨m,up b _ z'⟩
 ·obtain⟨m,⟨od,_,_,z,_⟩,_⟩:=I1.loc;exact n1 _ _ z
 ·obtain⟨v,o,z',_⟩:=I1.cell x c z;exact n1 _ _ z'
 ·obtain⟨a,b,c⟩:=I.pin p hp;exact⟨a,no _ b (n1 _ _ (I1.pin p hp).1),c⟩
 ·by_cases y:b=e
  ·rw[y,aq] at z;cases z;rw[y];exact A2 he
  ·rw[ak y] at z;exact(I.hok b o z).stay (λ_ _ _ q=>q) (λc q=>up c _ q) (λc xs q=>up c _ q) λc ob yy q=>up c _ q
end
theorem PE.imp'{X:Cx}{e:Expr}{t t':TE}(h:PE X e t)(i:∀σ H Q,t' σ H Q->t σ H Q):PE X e t':=λpins s σ H Q I q=>h pins s σ H Q I (i σ H Q q)
section
variable{X:Cx}{C fI:Addr}{f n:Str}{i:Nat}{np ap pos:Pos}
def HA(C:Addr)(dx:Addr)(ea:Addr)(H:Hp):Prop:=∃oe vs fs,H ea=some (XO ea oe)/\oe.cls=.ref C/\oe.dict=some dx/\oe.data=.fields vs/\H dx=some (.xd fs)
def KJ(C:Addr)(i:Nat)(f:Str):TE:=λσ H Q=>∃ea dx oe vs fs v,σ[i]?=some (some (.ref ea))/\H ea=some (XO ea oe)/\oe.cls=.ref C/\oe.dict=some dx/\oe.data=.fields vs/\H dx=some (.xd fs)/\fs.lookup f=some v/\Q v H
theorem Io(x:XC X.K C fI f)(hi:X.N[i]?=some n)(vis:qy X.env.scope n)
  (hb:attributeBase (.Name n np) f X.env (eval (.Name n np) X.env)=eval (.Name n np) X.env:=by rfl) (h1:(n == ("__debug__":Str))=false:=by decide) (h2:(n == ("__classdict__":Str))=false:=by decide):PE X (.Attribute (.Name n np) f ap) (KJ C i f):=by
 intro pins s σ H Q I ⟨ea,dx,oe,vs,fs,v,a0,a3,hc,hd,hv,a1,a2,q⟩;refine ye hb (bW (iL hi vis h1 h2 pins s σ H (λz H1=>z=.ref ea/\H1=H) I ⟨_,a0,rfl,rfl⟩) λu s1 ⟨z,H1,I1,rz,z1,z2⟩=>?_);subst z1 z2;obtain rfl:u=Value.ref ea:=rz;obtain⟨cd,c1,c2,c3⟩:=x.cd;obtain⟨mA,n1,r⟩:=(show aY X.prog X.w H1 s1.heap dx (.xd fs) from I1.hok dx _ a1);obtain⟨od,ho,hl⟩:=jo n1;obtain⟨u,hu,ru⟩:=RelO.some_of (v:=v) (o:=mA f) (by rw[←a2];exact r f)
 have hx:s1.heap.get? ea=some oe:=(show aY X.prog X.w H1 s1.heap ea (XO ea oe) from I1.hok ea _ a3).1;exact HM I1.kIn hx hc hd ho hv PySem.F.attrBase_ValueError c1 c2 c3 x.ga x.gg x.no (by rw[hl,hu]) (qd ru) ⟨v,H1,I1.tok _,ru,q⟩
theorem Cq(x:XC X.K C fI f)(t:XT X.K C):cZ X (.builtin "isinstance") (λxs H Q=>∃ea dx c u b,xs=[.ref ea,c]/\(∀v,RelV c v->v=u)/\HA C dx ea H/\kitOne X.K (.ref C) u=some b/\Q (.bl b) H):=λpins s σ H xs us Q I rs ⟨ea,dx,c,u,b,ex,hu,⟨oe,vs,fs,a3,hc,hd,hv,a1⟩,hk,q⟩=>by
 subst ex;obtain⟨v,v',rfl,ru,rv⟩:=A8 rs;obtain rfl:=hu v' rv;obtain rfl:v=Value.ref ea:=ru;obtain⟨mA,n1,r⟩:=(show aY X.prog X.w H s.heap dx (.xd fs) from I.hok dx _ a1);obtain⟨od,ho,hl⟩:=jo n1;have hx:s.heap.get? ea=some oe:=(show aY X.prog X.w H s.heap ea (XO ea oe) from I.hok ea _ a3).1;exact kia_one (BA x t hc hd hv) I.kIn ⟨hx,od,ho⟩ hk (λz=>nomatch z) λtk=>⟨.bl b,H,I.tok tk,rfl,q⟩
def FN(C:Addr)(i:Nat)(b:Bool):TE:=λσ H Q=>∃ea dx,σ[i]?=some (some (.ref ea))/\HA C dx ea H/\Q (.bl b) H
theorem w4{tn:Str}{b:Bool}{c:V}{u:Value}{p p':Pos}(x:XC X.K C fI f)(t:XT X.K C)(hi:X.N[i]?=some n)(vis:qy X.env.scope n)(hg:Gl X "isinstance")(hm:X.mg "isinstance" = none)(hc:PE X (.Name tn p') (tC c))(hu:∀v,RelV c v->v=u)(hk:kitOne X.K (.ref C) u=some b)
  (h1:(n == ("__debug__":Str))=false:=by decide) (h2:(n == ("__classdict__":Str))=false:=by decide) (hs1:starEach [.Name n np,.Name tn p'] X.env=(false,eval (.Name n np) X.env)::starEach [.Name tn p'] X.env:=by rfl) (hs2:starEach [.Name tn p'] X.env=(false,eval (.Name tn p') X.env)::starEach [] X.env:=by rfl)
  (hpl:(backTo pos (starEach [.Name tn p'] X.env)).any (·.1)=false:=by rfl):PE X (.Call (.Name "isinstance" p) [.Name n np,.Name tn p'] [] pos) (FN C i b):=
 PE.imp' (iM (Cq x t) hg hm boot_isinstance (bF (iL hi vis h1 h2) (bF hc eY hs2) hs1) (by decide) (by decide) hs1 hpl) λσ H Q ⟨ea,dx,a0,kp,q⟩=>⟨_,a0,ea,dx,c,u,b,rfl,hu,kp,hk,q⟩
end
section
variable{X:Cx}{C fI:Addr}{f n xt:Str}{i iy:Nat}{a b:Expr}{rest:List Expr}{pos:Pos}
def gW(C:Addr)(iy:Nat):TT:=λσ H Q=>∃ea dx,σ[iy]?=some (some (.ref ea))/\HA C dx ea H/\Q false H
theorem PT.imp'{t t':TT}(h:PT X a t)(i:∀σ H Q,t' σ H Q->t σ H Q):PT X a t':=λpins s σ H Q I q=>h pins s σ H Q I (i σ H Q q)
theorem AF(ha:PT X a (gW C iy))(hb:PT X b (gW C iy)):PT X (.BoolOp .Or [a,b] pos) (gW C iy):=
 PT.imp' (PW.pt (Fh ha (Aw hb))) λσ H Q ⟨ea,dx,h1,h2,q⟩=>⟨ea,dx,h1,h2,by show(if false=true then _ else _);rw[if_neg (by decide)];exact⟨ea,dx,h1,h2,q⟩⟩
theorem Im(h:PE X a (FN C iy false))(he:∀whole,isTrue a X.env whole=(do let v ←whole;standAt a.pos;holding [v] (truthy v)):=by intro _;rfl):PT X a (gW C iy):=
 PT.imp' (vS h he) λσ H Q ⟨ea,dx,h1,h2,q⟩=>⟨ea,dx,h1,h2,_,rfl,q⟩
theorem AG(h:PE X a (FN C iy true))(he:∀whole,isTrue a X.env whole=(do let v ←whole;standAt a.pos;holding [v] (truthy v)):=by intro _;rfl):PT X (.UnaryOp .Not a pos) (gW C iy):=
 PT.imp' (Ay (vS h he)) λσ H Q ⟨ea,dx,h1,h2,q⟩=>⟨ea,dx,h1,h2,_,rfl,q⟩
def HW(C:Addr)(f:Str)(i iy:Nat)(w:Str):TS:=λD σ H=>(σ[iy]?=some (some .non)/\∃v,σ[i]?=some (some v)/\D.rt v H)\/
 (∃ea dx oe vs m,σ[iy]?=some (some (.ref ea))/\H ea=some (XO ea oe)/\oe.cls=.ref C/\oe.dict=some dx/\oe.data=.fields vs/\H dx=some (.xd [(f,m)])/\∀p,H p=none->D.rt (.ref p) (aS H p (.tup [.str w,m])))
def sU(C:Addr)(f:Str)(iy:Nat)(w:Str):TS:=λD σ H=>∃ea dx oe vs m,σ[iy]?=some (some (.ref ea))/\H ea=some (XO ea oe)/\oe.cls=.ref C/\oe.dict=some dx/\oe.data=.fields vs/\H dx=some (.xd [(f,m)])/\∀p,H p=none->D.rt (.ref p) (aS H p (.tup [.str w,m]))
theorem ip.imp'{e:List Stmt}{t t':TS}(h:ip X e t)(i:∀D σ H,t' D σ H->t D σ H):ip X e t':=λpins s σ H D I q=>h pins s σ H D I (i D σ H q)
theorem AC{c:Expr}{st:Stmt}{sts:List Stmt}{t:TS}{w:Str}(hc:PT X c (gW C iy))(hs:PS X st t)(hr:ip X sts (sU C f iy w)):ip X (.If c [st] [] pos::sts) (sU C f iy w):=
 ip.imp' (iJ (AB hc (kr hs) mE) hr) λD σ H ⟨ea,dx,oe,vs,m,h1,h2,h3,h4,h5,h6,h7⟩=>⟨ea,dx,h1,⟨oe,vs,_,h2,h3,h4,h5,h6⟩,by
  show(if false=true then _ else _);rw[if_neg (by decide)]
  exact⟨ea,dx,oe,vs,m,h1,h2,h3,h4,h5,h6,h7⟩⟩
theorem G2{w:Str}{j:Nat}{cp np ap tp:Pos}{x1:Nat}(x:XC X.K C fI f)(hi:X.N[iy]?=some n)(vis:qy X.env.scope n)
  (hb:attributeBase (.Name n np) f X.env (eval (.Name n np) X.env)=eval (.Name n np) X.env:=by rfl) (h1:(n == ("__debug__":Str))=false:=by decide) (h2:(n == ("__classdict__":Str))=false:=by decide)
  (hs:starEach [.Constant (.str w) j cp,.Attribute (.Name n np) f ap] X.env=(false,eval (.Constant (.str w) j cp) X.env)::starEach [.Attribute (.Name n np) f ap] X.env:=by rfl) (hs2:starEach [.Attribute (.Name n np) f ap] X.env=(false,eval (.Attribute (.Name n np) f ap) X.env)::starEach [] X.env:=by rfl):
  ip X [.Return (some (.Tuple [.Constant (.str w) j cp,.Attribute (.Name n np) f ap] x1 tp)) pos] (sU C f iy w):=
 ip.imp' (kr (kZ (AH (bF AI (bF (Io x hi vis hb h1 h2) eY hs2) hs)))) λD σ H ⟨ea,dx,oe,vs,m,h1,h2,h3,h4,h5,h6,h7⟩=>
  ⟨ea,dx,oe,vs,_,m,h1,h2,h3,h4,h5,h6,by simp[List.lookup],(by show 2<=sizeLine;decide),h7⟩
theorem G3{w:Str}{j:Nat}{p1 p2 p3 p4 p5:Pos}{sts:List Stmt}(hi:X.N[i]?=some xt)(vi:qy X.env.scope xt)(hy:X.N[iy]?=some n)(vy:qy X.env.scope n)(hr:ip X sts (sU C f iy w))
  (h1:(n == ("__debug__":Str))=false:=by decide) (h2:(n == ("__classdict__":Str))=false:=by decide) (h3:(xt == ("__debug__":Str))=false:=by decide) (h4:(xt == ("__classdict__":Str))=false:=by decide):
  ip X (.If (.Compare (.Name n p1) [.Is] [.Constant .none j p2] p3) [.Return (some (.Name xt p4)) p5] [] pos::sts) (HW C f i iy w):=
 ip.imp' (iJ (AB (qW (w5 (iL hy vy h1 h2))) (kr (kZ (iL hi vi h3 h4))) mE) hr) λD σ H z=>by
  rcases z with⟨a,v,e,q⟩|⟨ea,dx,oe,vs,m,h1,h2,h3,h4,h5,h6,h7⟩
  ·exact⟨_,a,_,rfl,by show(if decide (V.non=V.non)=true then _ else _);rw[if_pos (by simp)];exact⟨v,e,q⟩⟩
  ·exact⟨_,h1,_,rfl,by show(if decide (V.ref ea=V.non)=true then _ else _);rw[if_neg (by simp)];exact⟨ea,dx,oe,vs,m,h1,h2,h3,h4,h5,h6,h7⟩⟩
end
end L2
namespace L3
open PySem PySem.Spec PyProof.Rows L2
structure md(K:Frag)(mg:Str->Option Value)(cls:String->Addr)(c:String)(f bn:Str)(ys ns:List Str):Prop where
 ex:∃fI,XC K (cls c) fI f
 xt:XT K (cls c)
 bb:∃B,XB K B/\mg bn=some (.ref B)/\PySem.W.mroIn K (cls c) (.ref B)=some true
 ve:PySem.W.kitOne K (.ref (cls c)) (.type "ValueError")=some true
 ys:∀y∈ys,∃T,mg y=some (.ref T)/\PySem.W.kitOne K (.ref (cls c)) (.ref T)=some true
 ns:∀y∈ns,∃T,mg y=some (.ref T)/\PySem.W.kitOne K (.ref (cls c)) (.ref T)=some false
theorem ET:bootBuiltins "ValueError" = some (.type "ValueError"):=by decide +kernel
section
variable{X:Cx}{Γ:Ct}{W:XW}{c:String}{f fn xt n y cn w tn:Str}{ys ns:List Str}{k i ie iy:Nat}{p p' np p1 p2 p3 p4 p5 p6 p7 p8 p9 p10 pos:Pos}{e:Expr}{es:List Expr}{gs:List ME}{F:List D->Option R}{ps:List Str}{sts:List Stmt}{a:Expr}
theorem qY(L:md X.K X.mg Γ.cls c f cn ys ns)(hy:tn∈ns)(hi:X.N[iy]?=some n)(vis:qy X.env.scope n)(hg:Gl X "isinstance")(hm:X.mg "isinstance" = none)(hg2:Gl X tn)(hdb:(tn == ("__debug__":Str))=false:=by decide)
  (h1:(n == ("__debug__":Str))=false:=by decide) (h2:(n == ("__classdict__":Str))=false:=by decide) (hs1:starEach [.Name n np,.Name tn p'] X.env=(false,eval (.Name n np) X.env)::starEach [.Name tn p'] X.env:=by rfl) (hs2:starEach [.Name tn p'] X.env=(false,eval (.Name tn p') X.env)::starEach [] X.env:=by rfl)
  (hpl:(backTo pos (starEach [.Name tn p'] X.env)).any (·.1)=false:=by rfl) (he:∀whole,isTrue (.Call (.Name "isinstance" p) [.Name n np,.Name tn p'] [] pos) X.env whole=(do let v ←whole;standAt (Expr.Call (.Name "isinstance" p) [.Name n np,.Name tn p'] [] pos).pos;holding [v] (truthy v)):=by intro _;rfl):
  PT X (.Call (.Name "isinstance" p) [.Name n np,.Name tn p'] [] pos) (gW (Γ.cls c) iy):=by
 obtain⟨fI,x⟩:=L.ex;obtain⟨T,m,kt⟩:=L.ns tn hy;exact Im (w4 x L.xt hi vis hg hm (xF (v:=.ref T) hg2 m rfl hdb) (λv r=>r) kt h1 h2 hs1 hs2 hpl) he
theorem Dx(L:md X.K X.mg Γ.cls c f cn ys ns)(hy:tn∈ys)(hi:X.N[iy]?=some n)(vis:qy X.env.scope n)(hg:Gl X "isinstance")(hm:X.mg "isinstance" = none)(hg2:Gl X tn)(hdb:(tn == ("__debug__":Str))=false:=by decide)
  (h1:(n == ("__debug__":Str))=false:=by decide) (h2:(n == ("__classdict__":Str))=false:=by decide) (hs1:starEach [.Name n np,.Name tn p'] X.env=(false,eval (.Name n np) X.env)::starEach [.Name tn p'] X.env:=by rfl) (hs2:starEach [.Name tn p'] X.env=(false,eval (.Name tn p') X.env)::starEach [] X.env:=by rfl)
  (hpl:(backTo pos (starEach [.Name tn p'] X.env)).any (·.1)=false:=by rfl) (he:∀whole,isTrue (.Call (.Name "isinstance" p) [.Name n np,.Name tn p'] [] pos) X.env whole=(do let v ←whole;standAt (Expr.Call (.Name "isinstance" p) [.Name n np,.Name tn p'] [] pos).pos;holding [v] (truthy v)):=by intro _;rfl):
  PT X (.UnaryOp .Not (.Call (.Name "isinstance" p) [.Name n np,.Name tn p'] [] pos) p1) (gW (Γ.cls c) iy):=by
 obtain⟨fI,x⟩:=L.ex;obtain⟨T,m,kt⟩:=L.ys tn hy;exact AG (w4 x L.xt hi vis hg hm (xF (v:=.ref T) hg2 m rfl hdb) (λv r=>r) kt h1 h2 hs1 hs2 hpl) he
theorem Dw(L:md X.K X.mg Γ.cls c f cn ys ns)(hi:X.N[iy]?=some n)(vis:qy X.env.scope n)(hg:Gl X "isinstance")(hm:X.mg "isinstance" = none)(hg2:Gl X "ValueError")(hm2:X.mg "ValueError" = none)
  (h1:(n == ("__debug__":Str))=false:=by decide) (h2:(n == ("__classdict__":Str))=false:=by decide) (hs1:starEach [.Name n np,.Name "ValueError" p'] X.env=(false,eval (.Name n np) X.env)::starEach [.Name "ValueError" p'] X.env:=by rfl) (hs2:starEach [.Name "ValueError" p'] X.env=(false,eval (.Name "ValueError" p') X.env)::starEach [] X.env:=by rfl)
  (hpl:(backTo pos (starEach [.Name "ValueError" p'] X.env)).any (·.1)=false:=by rfl) (he:∀whole,isTrue (.Call (.Name "isinstance" p) [.Name n np,.Name "ValueError" p'] [] pos) X.env whole=(do let v ←whole;standAt (Expr.Call (.Name "isinstance" p) [.Name n np,.Name "ValueError" p'] [] pos).pos;holding [v] (truthy v)):=by intro _;rfl):
  PT X (.UnaryOp .Not (.Call (.Name "isinstance" p) [.Name n np,.Name "ValueError" p'] [] pos) p1) (gW (Γ.cls c) iy):=by
 obtain⟨fI,x⟩:=L.ex;exact AG (w4 x L.xt hi vis hg hm (xG (v:=.ty "ValueError") hg2 hm2 ET rfl) (λv r=>r) L.ve h1 h2 hs1 hs2 hpl) he
theorem Ds{j x1:Nat}{cp ap tp:Pos}(L:md X.K X.mg Γ.cls c f cn ys ns)(hi:X.N[iy]?=some n)(vis:qy X.env.scope n)
  (hb:attributeBase (.Name n np) f X.env (eval (.Name n np) X.env)=eval (.Name n np) X.env:=by rfl) (h1:(n == ("__debug__":Str))=false:=by decide) (h2:(n == ("__classdict__":Str))=false:=by decide)
  (hs:starEach [.Constant (.str w) j cp,.Attribute (.Name n np) f ap] X.env=(false,eval (.Constant (.str w) j cp) X.env)::starEach [.Attribute (.Name n np) f ap] X.env:=by rfl) (hs2:starEach [.Attribute (.Name n np) f ap] X.env=(false,eval (.Attribute (.Name n np) f ap) X.env)::starEach [] X.env:=by rfl):
  ip X [.Return (some (.Tuple [.Constant (.str w) j cp,.Attribute (.Name n np) f ap] x1 tp)) pos] (sU (Γ.cls c) f iy w):=by
 obtain⟨fI,x⟩:=L.ex;exact G2 x hi vis hb h1 h2 hs hs2
end
theorem Bz{K:Frag}{h:Heap}{mg:Str->Option Value}(X:K.In h)(G:h.Ns mainGlobals mg){cls:String->Addr}{cn:String}{C fI B:Addr}(ec:cls cn=C){f bn:Str}{ys ns:List Str}(x1:yn K C fI=true)(x2:PySem.W.typeIn K (.ref fI)=some (.type "function"))(x3:PySem.W.findIn K (.ref C) "__setattr__" = some (some (.builtin "object.__setattr__")))(x4:PySem.W.findIn K (.ref C) "__getattribute__" = some (some (.builtin "BaseException.__getattribute__")))
  (x5:PySem.W.findIn K (.ref C) "__getattr__" = some none) (x6:PySem.W.findIn K (.ref C) f=some none) (x7:PySem.W.keepIn K (.ref C)=true)
  (t1:PySem.W.findIn K (.ref C) "__class__" = some (some (.builtin "object.__class__"))) (t2:PySem.W.specialIn K (.builtin "object.__class__") "__get__" = some (some (.builtin "getset_descriptor.__get__"))) (t3:PySem.W.takesIn K (.builtin "object.__class__")=some true) (t4:PySem.W.mroIn K C (.type "object")=some true)
  (b0:PySem.W.nsIn K mainGlobals bn=some (some (.ref B))) (b1:(PySem.W.clsIn K B).isSome=true) (b2:PySem.W.typeIn K (.ref B)=some (.type "type")) (b3:PySem.W.mroIn K B (.type "BaseException")=some true) (b4:PySem.W.mroIn K C (.ref B)=some true)
  (ve:PySem.W.kitOne K (.ref C) (.type "ValueError")=some true)
  (hy:∀y∈ys,∃T,PySem.W.nsIn K mainGlobals y=some (some (.ref T))/\PySem.W.kitOne K (.ref C) (.ref T)=some true) (hn:∀y∈ns,∃T,PySem.W.nsIn K mainGlobals y=some (some (.ref T))/\PySem.W.kitOne K (.ref C) (.ref T)=some false):md K mg cls cn f bn ys ns:=by
 subst ec;exact⟨⟨fI,x1,x2,x3,x4,x5,x6,x7⟩,⟨t1,t2,t3,t4⟩,⟨B,⟨b1,b2,b3⟩,mg_of X G b0,b4⟩,ve,λy hy'=>let ⟨T,a,b⟩:=hy y hy';⟨T,mg_of X G a,b⟩,λy hy'=>let ⟨T,a,b⟩:=hn y hy';⟨T,mg_of X G a,b⟩⟩
def Cs:CA:=λ_=>none
theorem yT{X:Cx}{lams:Nat->Option dQ}{Γ:Ct}{sts:List Stmt}:Hu X lams Γ sts Cs:=λ_ _ _ _ _ _ ⟨_,_,_,_,_,_,e,_⟩=>nomatch e
def GZ(n:Nat):D->D->Option R
 |.tup xs,.tup ys=>(iA (ml n) xs ys).bind λb=>okB (!b)
 |_,_=>none
theorem DM{X:Cx}{Γ:Ct}{W:XW}{n:Nat}(hK:X.K=Γ.K)(hu:X.A.units+(n+1)<cLine):ft X (compareOp .NotEq) (rD Γ W (GZ n)):=λpins s σ H x y v u Q I rx ry ⟨Hs,d1,d2,r,sm,r1,r2,e,q⟩=>by
 unfold GZ at e;split at e
 ·rename_i xs ys;cases h:iA (ml n) xs ys with
  |none=>rw[h] at e;cases e
  |some b=>
   rw[h] at e;cases e;have ih:=nN hK I n X.A.in1 (by show X.A.units+1+n<cLine;omega)
   obtain⟨a,vs,rfl,q1,l1⟩:=aF.mp (r1.mono sm);obtain⟨a',ws,rfl,q2,l2⟩:=aF.mp (r2.mono sm);cases rx;cases ry;obtain⟨its,v1,p1,_⟩:=I.tuple (by rw[hK];exact q1)
   obtain⟨its2,v2,p2,_⟩:=I.tuple (by rw[hK];exact q2)
   have e:=PySem.SeqAt.RcNeAt.tuples p1 p2 (A:=X.A) (by omega) (fK n ih h l1 l2 v1 v2)
   rw[size_toArray,size_toArray,←v1.length,←v2.length,←l1.length,←l2.length,←gO _ xs ys b h] at e;exact e X.prog X.w X.xe _ ⟨.bl (!b),H,I,rfl,d6 sm q (az.mpr rfl)⟩
 ·cases e
end L3
namespace L2
open PySem PySem.Spec PyProof.Rows PySem.W
abbrev TB:=(St->Hp->Prop)->XK->St->Hp->Prop
def PB(X:Cx)(body:List Stmt)(t:TB):Prop:=∀(pins:List (Addr×Obj))(s:Shared)(σ:St)(H:Hp)(N:St->Hp->Prop)(E:XK),ay X pins σ H s->t N E σ H->
 wpAny (model X.prog X.w) X.A (execs body X.env) (λfl s'=>fl=.next/\∃σ' H',ay X pins σ' H' s'/\N σ' H') (λev s'=>∃H1 s1,ay X pins σ H1 s1/\vm X.prog X.w X.stack H1 s1 E ev s') s
section
variable{X:Cx}{B C fI fa:Addr}{f fn xt n y cn:Str}{fd:FuncData}{ps:List Str}{sp:Sp}{k i ie iy:Nat}{p1 p2 p3 p4 p5 p6 p7 p9 p10 pos:Pos}{e:Expr}{es:List Expr}{t:TA}{dvs:List V}{ds:List Value}
def HY(sp:Sp)(dvs:List V)(i:Nat)(t:TA):TB:=λN E σ H=>t σ H λvs H1=>sp (vs++dvs) H1 (λv H2=>N (σ.set i (some v)) H2) E
theorem AX(G:bV X.prog X.w X.K X.mg X.base (vm X.prog X.w) k fa fd ps sp)(hr:ba k X.A)(hg:Gl X fn)(hm:X.mg fn=some (.ref fa))(hk:keepIn X.K (.ref fa)=true)(hb:bO X.K fd ps ds)(hd:Vals dvs ds)(ha:PA X.nox (e::es) t)(hN:X.N.Nodup)(hi:X.N[i]?=some xt)
  (lx:X.env.scope.names.lookup xt=some .local) (hdf:(fn == ("__debug__":Str))=false) (hs1:swapsWith (.Call (.Name fn p2) (e::es) [] p3) (some (.Name xt p1)) p4.line X.env=pure false:=by rfl)
  (he:starEach (e::es) X.env=(false,eval e X.env)::starEach es X.env:=by rfl) (hpl:(backTo p3 (starEach es X.env)).any (·.1)=false:=by rfl):PB X [.Assign [.Name xt p1] (.Call (.Name fn p2) (e::es) [] p3) p4] (HY sp dvs i t):=by
 intro pins s σ H N E I h;refine wpAny_execs_cons (wpAny_Assign_Name (wpAny_Call_Name_kw (i7 I hg hm ?_ hdf)) hs1);refine callWith_K (h₀:=X.base) I.ok.mod.kin hk (wpAny_mono (ha p3 pins s σ H _ (I.wish _) h) (λus s1 ⟨vs,H1,I1',r,q⟩=>?_) λ_ _ z=>False.elim z) he hpl;have I1:ay X pins σ H1 s1:=I1'.unwish;refine⟨I1.kIn,?_⟩;have r':Vals (vs++dvs) (us++ds):=r.append hd;have hl:(us++ds).length=ps.length:=by rw[←r'.length];exact G.len _ _ _ _ q
 refine wpAny_call (codeAny_mono (G.run X.A X.stack s1 H1 ⟨us,[]⟩ (us++ds) (vs++dvs) _ _ hr I1.env0 (hb s1 us I1.kIn hl) r' q) λrr s' hq=>?_);cases rr with
 |ok fl=>
  cases fl with
  |ret u=>
   obtain⟨v,H2,I2,rv,q2⟩:=I1.after hq;exact iF I2 hN hi (.inl lx) rv (λs3 I3=>wpAny_execs_nil ⟨rfl,_,_,I3,q2⟩) (.inr lx)
  |next=>exact False.elim hq
  |brk=>exact False.elim hq
  |cont=>exact False.elim hq
 |error ev=>exact⟨H1,s1,I1,hq⟩
def JU(tc:TT)(t u:TB):TB:=λN E σ H=>tc σ H λb H1=>if b=true then t N E σ H1 else u N E σ H1
theorem Iu{c:Expr}{a b:List Stmt}{tc:TT}{t u:TB}(hc:PT X.nox c tc)(ha:PB X a t)(hb:PB X b u):PB X [.If c a b pos] (JU tc t u):=by
 intro pins s σ H N E I h;refine wpAny_execs_cons (wpAny_If (wpAny_mono (hc pins s σ H _ (I.wish _) h) (λd s1 ⟨H1,I1',q1⟩=>?_) λ_ _ z=>False.elim z));have I1:ay X pins σ H1 s1:=I1'.unwish;cases d with
 |true=>
  refine wpAny_mono (ha pins s1 σ H1 N E I1 q1) (λfl s' hq=>?_) λev s' hq=>hq;obtain⟨rfl,z⟩:=hq;exact wpAny_execs_nil ⟨rfl,z⟩
 |false=>
  refine wpAny_mono (hb pins s1 σ H1 N E I1 q1) (λfl s' hq=>?_) λev s' hq=>hq;obtain⟨rfl,z⟩:=hq;exact wpAny_execs_nil ⟨rfl,z⟩
def HP(C:Addr)(f:Str)(ie iy:Nat)(t:TB):TS:=λD σ H=>t D.nx (λcls od H2=>∃dx v,cls=.ref C/\od=some dx/\H2 dx=some (.xd [(f,v)])/\
 ∀ea oe us,oe.cls=.ref C->oe.dict=some dx->oe.data=.fields us->H2 ea=none->D.nx ((σ.set iy (some (.ref ea))).set ie none) (aS H2 ea (XO ea oe))) σ H
theorem Dn{body:List Stmt}{t:TB}(x:XC X.K C fI f)(b:XB X.K B)(hmr:mroIn X.K C (.ref B)=some true)(hx:X.ex=[])(hgC:Gl X cn)(hmC:X.mg cn=some (.ref B))
  (hst:X.stack=X.env::X.outer) (hf:X.env.frame=some X.env.locals) (hbd:PB X body t) (hN:X.N.Nodup) (hie:X.N[ie]?=some n) (hiy:X.N[iy]?=some y) (hne:ie≠iy)
  (ln:X.env.scope.names.lookup n=some .local) (ly:X.env.scope.names.lookup y=some .local)
  (hdn:(n == ("__debug__":Str))=false) (hcn:(n == ("__classdict__":Str))=false) (hdc:(cn == ("__debug__":Str))=false)
  (hs2:swapsWith (.Name n p7) (some (.Name y p6)) p9.line X.env=pure false:=by rfl):
  PS X (.Try body [.ExceptHandler (some (.Name cn p5)) (some n) [.Assign [.Name y p6] (.Name n p7) p9] p10] [] [] pos) (HP C f ie iy t):=by
 intro pins s σ H D I h;refine wpAny_Try_except (wpAny_mono (hbd pins s σ H _ _ I h) (λfl s' hq=>?_) λev s' hq=>?_)
 ·obtain⟨rfl,σ',H',I',q⟩:=hq;exact wpAny_execs_nil ⟨_,_,I',q⟩
 ·obtain⟨H1,s1,I1,hq⟩:=hq;obtain⟨ea,C',dx',H2,base,e1,e2,e3,u,m,dx,v,q1,q2,q3,q4⟩:=hq;subst e1;obtain rfl:C'=C:=by cases q1;rfl
  obtain rfl:dx'=dx:=by cases q2;rfl
  have fr:=u.fr;have hA:=I.ok.frames;rw[hst] at fr hA;have sx:∀h2 fl,xm base (X.env::X.outer) ea (.ref C') (some dx') fl h2->h2.FunFrames base X.stack:=λh2 fl F=>by rw[hst];exact F.fr
  obtain⟨hp,g,d,tk,os⟩:=s';show wpAny (model X.prog X.w) X.A (noteFrame (.ref ea) X.env) _ _ ⟨hp,g,d,tk,os⟩;refine xn (s:=⟨hp,g,d,tk,os⟩) hA hf ⟨u.st,u.nw,fr,m⟩ λh2 F2 k2=>qD (s:=⟨h2,g,d,tk,os⟩) F2 λh3 F3 k3=>?_;have u3:=(u.step F2.st (sx _ _ F2) k2).step F3.st (sx _ _ F3) k3;have mk:∀h4,A1 X.prog X.w (frs X.stack) X.stack H1 s1.heap base ea H2 h4->ay X pins σ H2 ⟨h4,g,d,tk,os⟩:=λh4 u4=>I1.call' (s':=⟨h4,g,d,tk,os⟩) e2 u4.un u4.hok e3 (λb hb=>absurd hb (by simp))
  have I3:=mk h3 u3;obtain⟨oe,vs,T,oT,ts,he3,⟨hc3,hd3⟩,hdd,_⟩:=F3.tr;have insE:∀h4 o4 us,A1 X.prog X.w (frs X.stack) X.stack H1 s1.heap base ea H2 h4->h4.get? ea=some o4->o4.cls=.ref C'->o4.dict=some dx'->o4.data=.fields us->∃od,InstAt h4 ea o4 C' (some od):=λh4 o4 us u4 z1 z2 z3 z4=>by
   obtain⟨mA,n1,r1⟩:=(show aY X.prog X.w H2 h4 dx' (.xd [(f,v)]) from(mk h4 u4).hok dx' _ q3);obtain⟨od,ho,hl⟩:=jo n1;exact⟨od,z1,z2,by unfold notCls;rw[z4],by rw[z3];exact ho⟩
  refine wpAny_handleBy_cons (codeAny_handlers_test ?_) (by intro q;cases q)
  refine i7 (X:=X.hdl (.ref ea) []) (I3.hdl (λq hq=>absurd hq (by simp))) hgC hmC ?_ hdc
  obtain⟨od3,i3⟩:=insE h3 oe vs u3 he3 hc3 hd3 hdd;refine yo (s:=⟨h3,g,d,tk,os⟩) I3.kIn b i3 hmr ?_;refine codeAny_handlers_suite_as (qD (s:=⟨h3,g,d,tk,os⟩) F3 λh4 F4 k4=>?_);have u4:=u3.step F4.st (sx _ _ F4) k4;obtain⟨oe4,vs4,_,_,_,he4,⟨hc4,hd4⟩,hdd4,_⟩:=F4.tr;have nfr:ea∉frs X.stack:=λz=>by
   obtain⟨_,o,ho,nf⟩:=u4.fr.mem z;rw[he4] at ho;cases ho;exact nf _ hdd4
  have nH:H2 ea=none:=by
   cases z:H2 ea with
   |none=>rfl
   |some w=>
    have:=u4.bk ea _ he4 nfr (.inl ⟨w,z⟩);rw[u4.nw] at this;cases this
  have n1:s1.heap.get? ea=none:=by
   cases z:s1.heap.get? ea with
   |none=>rfl
   |some w=>
    have:=u4.bk ea _ he4 nfr (.inr ⟨w,z⟩);rw[u4.nw] at this;cases this
  have I4:=I1.hold (mk h4 u4) hx n1 he4 nH;have q5:=q4 ea oe4 vs4 hc4 hd4 hdd4 nH;have il:ie<σ.length:=by rw[I.len];exact(List.getElem?_eq_some_iff.mp hie).1
  have I4h:ay (X.hdl (.ref ea) []) pins σ (aS H2 ea (XO ea oe4)) ⟨h4,g,d,tk,os⟩:=I4.hdl λq hq=>absurd hq (by simp)
  refine iF (X:=X.hdl (.ref ea) []) (v:=.ref ea) I4h hN hie (.inl ln) rfl (λs5 I5=>?_) (.inr ln);refine wpAny_execs_cons (wpAny_mono (vX (X:=X.hdl (.ref ea) []) hN hiy (.inl ly) (iL (i:=ie) hie (.inl ln) hdn hcn) hs2 (.inr ly) pins s5 _ _ {nx:=λσ' H'=>σ'=(σ.set ie (some (.ref ea))).set iy (some (.ref ea))/\H'=aS H2 ea (XO ea oe4),rt:=λ_ _=>False} I5
   ⟨_,getElem?_set_self il,rfl,rfl⟩) (λfl s6 z=>?_) λ_ _ z=>False.elim z)
  cases fl with
  |next=>
   obtain⟨σ6,H6,I6,rfl,rfl⟩:=z;refine wpAny_execs_nil (wpAny_bind (wpAny_bindName (iF (v:=.non) (I6.unhdl I.ok) hN hie (.inl ln) rfl (λs7 I7=>?_) (.inr ln))));refine wpAny_onRaise (A4 I7 hN hie ln (getElem?_set_self (by simpa using il)) λs8 I8=>⟨_,_,I8,?_⟩)
   rw[List.set_set,List.set_comm _ _ (Ne.symm hne),List.set_set];rw[List.set_comm _ _ (Ne.symm hne)] at q5;exact q5
  |ret _=>obtain⟨_,_,_,_,_,q⟩:=z;exact False.elim q
  |_=>obtain⟨_,_,_,q⟩:=z;exact False.elim q
end
end L2
namespace L3
open PySem PySem.Spec PyProof.Rows L2
def se(F:List D->Option R)(gs:List ME):ME:=λρ=>(aI gs ρ).bind F
def mI(F:List D->Option R)(n:Int)(gs:List ME):ME:=λρ=>(aI gs ρ).bind λds=>F (ds++[.int n])
def uO(c a b:ME):ME:=λρ=>match c ρ with
 |some (.ok s)=>(match s.val with
  |.bl t=>if t=true then a ρ else b ρ
  |_=>none)
 |_=>none
inductive KL(Γ:Ct)(i:Nat)(g:ME)(N:L2.St->Hp->Prop)(E:XK)(σ:L2.St)(H:Hp):Prop
 |mk (B0 B1 Hs:Hp) (ρ:av) (r:R) (re:RE Γ B0 B1 Hs H σ ρ) (e:g ρ=some r) (q:RQ Γ (WE Γ E) Hs H r λv H'=>N (σ.set i (some v)) H')
abbrev HI(X:Cx)(Γ:Ct)(body:List Stmt)(i:Nat)(g:ME):Prop:=PB X body (KL Γ i g)
theorem PB.imp{X:Cx}{b:List Stmt}{t t':TB}(h:PB X b t)(i:∀N E σ H,t' N E σ H->t N E σ H):PB X b t':=λpins s σ H N E I q=>h pins s σ H N E I (i N E σ H q)
theorem RQ.growX{Γ:Ct}{W:XW}{Hs H Hs1 H1:Hp}{r:R}{Q:VK}(q:RQ Γ W Hs H r Q)(g:aW Hs H Hs1 H1):RQ Γ W Hs1 H1 r Q:=by
 cases r with
 |ok s=>exact λv Hs' H' g' rs=>q v Hs' H' (g.trans g') (rs.back g.h)
 |exc x=>exact λHs' H' g'=>q Hs' H' (g.trans g')
section
variable{X:Cx}{Γ:Ct}{W:XW}{c:String}{f fn xt n y cn w:Str}{ys ns ps:List Str}{k i ie iy:Nat}{p1 p2 p3 p4 p5 p6 p7 p9 p10 pos:Pos}{e:Expr}{es:List Expr}{gs:List ME}{F:List D->Option R}{sts body a b:List Stmt}{df:Int}{g g1 g2 gc:ME}{ce:Expr}
theorem Di(h:Ky X.prog X.w X.K X.mg X.base Γ k fn ps F)(hr:ba k X.A)(hg:Gl X fn)(ha:kh X.nox Γ W0 (e::es) gs)(hN:X.N.Nodup)(hi:X.N[i]?=some xt)
  (lx:X.env.scope.names.lookup xt=some .local) (hdf:(fn == ("__debug__":Str))=false:=by decide) (hs1:swapsWith (.Call (.Name fn p2) (e::es) [] p3) (some (.Name xt p1)) p4.line X.env=pure false:=by rfl)
  (he:starEach (e::es) X.env=(false,eval e X.env)::starEach es X.env:=by rfl) (hpl:(backTo p3 (starEach es X.env)).any (·.1)=false:=by rfl):HI X Γ [.Assign [.Name xt p1] (.Call (.Name fn p2) (e::es) [] p3) p4] i (se F gs):=by
 obtain⟨fa,fd,G,hm,hk,hb⟩:=h;refine PB.imp (AX (dvs:=[]) (ds:=[]) G hr hg hm hk hb .nil ha hN hi lx hdf hs1 he hpl) λN E σ H ⟨B0,B1,Hs,ρ,r,re,e,q⟩=>?_;obtain⟨ds,h1,h2⟩:=Option.bind_eq_some_iff.mp e;refine bz gs (λvs H1 ⟨Hs1,g1,rl⟩=>?_) (fO gs re h1);rw[append_nil];exact⟨Hs1,ds,r,(re.grow g1).b.i,rl,h2,q.growX g1,(re.grow g1).tb⟩
theorem Av(h:pq X.prog X.w X.K X.mg X.base Γ k fn ps F df)(hr:ba k X.A)(hg:Gl X fn)(ha:kh X.nox Γ W0 (e::es) gs)(hN:X.N.Nodup)(hi:X.N[i]?=some xt)
  (lx:X.env.scope.names.lookup xt=some .local) (hdf:(fn == ("__debug__":Str))=false:=by decide) (hs1:swapsWith (.Call (.Name fn p2) (e::es) [] p3) (some (.Name xt p1)) p4.line X.env=pure false:=by rfl)
  (he:starEach (e::es) X.env=(false,eval e X.env)::starEach es X.env:=by rfl) (hpl:(backTo p3 (starEach es X.env)).any (·.1)=false:=by rfl):HI X Γ [.Assign [.Name xt p1] (.Call (.Name fn p2) (e::es) [] p3) p4] i (mI F df gs):=by
 obtain⟨fa,fd,t,G,hm,hk,_,hb⟩:=h;refine PB.imp (AX (dvs:=[.int df]) (ds:=[.int df t]) G hr hg hm hk hb (.cons ⟨t,rfl⟩ .nil) ha hN hi lx hdf hs1 he hpl) λN E σ H ⟨B0,B1,Hs,ρ,r,re,e,q⟩=>?_;obtain⟨ds,h1,h2⟩:=Option.bind_eq_some_iff.mp e;refine bz gs (λvs H1 ⟨Hs1,g1,rl⟩=>?_) (fO gs re h1);exact⟨Hs1,ds++[.int df],r,(re.grow g1).b.i,rl.append (.cons (ai.mpr rfl) .nil),h2,q.growX g1,(re.grow g1).tb⟩
theorem FV(hc:sA X.nox Γ W0 ce gc)(ha:HI X Γ a i g1)(hb:HI X Γ b i g2):HI X Γ [.If ce a b pos] i (uO gc g1 g2):=PB.imp (Iu hc ha hb) λN E σ H ⟨B0,B1,Hs,ρ,r,re,e,q⟩=>by
 unfold uO at e;split at e
 ·rename_i s hs;split at e
  ·rename_i t ht;refine⟨B0,B1,Hs,ρ,_,re,hs,t,ht,λHs' H' g'=>?_⟩;cases t with
   |_=>exact⟨B0,B1,Hs',ρ,r,re.grow g',e,q.growX g'⟩
  ·cases e
 ·cases e
def hJ(c:String)(f w:Str)(iy:Nat)(g:ME):MC:=λρ=>match ρ[iy]? with
 |some (some (.sh .non))=>(match g ρ with
  |some (.ok s)=>some (.ret s)
  |some (.exc (.obj c' [f'] [.int n]))=>if c'=c/\f'=f then some (.ret (.sh (.tup [.str w,.int n]))) else none
  |_=>none)
 |_=>none
theorem vW(L:md X.K X.mg Γ.cls c f cn ys ns)(hx:X.ex=[])(hgC:Gl X cn)
  (hst:X.stack=X.env::X.outer) (hf:X.env.frame=some X.env.locals) (hbd:HI X Γ body i g) (hN:X.N.Nodup) (hi:X.N[i]?=some xt) (hie:X.N[ie]?=some n) (hiy:X.N[iy]?=some y) (hne:ie≠iy) (hnx:i≠iy)
  (ln:X.env.scope.names.lookup n=some .local) (ly:X.env.scope.names.lookup y=some .local) (hrest:ip X sts (HW (Γ.cls c) f i iy w))
  (hdn:(n == ("__debug__":Str))=false:=by decide) (hcn:(n == ("__classdict__":Str))=false:=by decide) (hdc:(cn == ("__debug__":Str))=false:=by decide)
  (hs2:swapsWith (.Name n p7) (some (.Name y p6)) p9.line X.env=pure false:=by rfl):
  iC X Γ W (.Try body [.ExceptHandler (some (.Name cn p5)) (some n) [.Assign [.Name y p6] (.Name n p7) p9] p10] [] [] pos::sts) (hJ c f w iy g):=by
 obtain⟨fI,x⟩:=L.ex;obtain⟨B,b,hmC,hmr⟩:=L.bb;refine λpins s σ H D I t=>(iJ (Dn x b hmr hx hgC hmC hst hf hbd hN hie hiy hne ln ly hdn hcn hdc hs2) hrest) pins s σ H D I ?_;obtain⟨B0,B1,Hs,ρ,out,re,ee,q⟩:=t;have il:i<σ.length:=by rw[I.len];exact(List.getElem?_eq_some_iff.mp hi).1
 have yl:iy<σ.length:=by rw[I.len];exact(List.getElem?_eq_some_iff.mp hiy).1
 unfold hJ at ee;split at ee
 ·rename_i hy0;cases h2:g ρ with
  |none=>rw[h2] at ee;cases ee
  |some r=>
   rw[h2] at ee;refine⟨B0,B1,Hs,ρ,r,re,h2,?_⟩;cases r with
   |ok s=>
    cases ee;intro v Hs' H' g' rs;refine .inl ⟨?_,v,getElem?_set_self il,q v Hs' H' g'.s (re.b.trans g') (rs.back re.b.h)⟩;rw[getElem?_set_ne hnx];obtain⟨v0,z1,z2⟩:=re.sh iy _ hy0;rw[z1,bc.mp z2]
   |exc z=>
    split at ee
    ·rename_i _ hz0;cases hz0
    ·rename_i c0 f0 m hz0;cases hz0;split at ee
     ·rename_i hcf;obtain⟨rfl,rfl⟩:=hcf;cases ee;intro Hs' H' g' c' f' m' dx hz hd;unfold wR at hz;cases hz;have g2:aW Hs' H' Hs' (aS H' dx (.xd [(f0,.int m)])):=⟨.refl _,λb u w=>by rw[ak (λy=>by rw[y,hd] at w;cases w)];exact w,λb u w=>by
       have:=g'.i b u w;rw[ak (λy=>by rw[y,hd] at this;cases this)];exact this,λb u w=>.inl w⟩
      refine⟨dx,.int m,rfl,rfl,aq,λea oe us k1 k2 k3 k4=>.inr ⟨ea,dx,oe,us,.int m,?_,aq,k1,k2,k3,?_,λp hp=>?_⟩⟩
      ·rw[getElem?_set_ne hne,getElem?_set_self yl]
      ·rw[ak (λy=>by rw[y] at k4;rw[aq] at k4;cases k4),aq]
      ·have g3:aW Hs' (aS H' dx (.xd [(f0,.int m)])) Hs' (aS (aS H' dx (.xd [(f0,.int m)])) ea (XO ea oe)):=⟨.refl _,λb u w=>by rw[ak (λy=>by rw[y,k4] at w;cases w)];exact w,λb u w=>by
        have:=g2.i b u w;rw[ak (λy=>by rw[y,k4] at this;cases this)];exact this,λb u w=>.inl w⟩
       have g4:=(g'.trans g2).trans g3;have g5:aW Hs H (aS Hs' p (.tup [.str w,.int m])) (aS (aS (aS H' dx (.xd [(f0,.int m)])) ea (XO ea oe)) p (.tup [.str w,.int m])):=g4.trans (.new g4.i hp);refine q _ _ _ g5.s (re.b.trans g5) (aF.mpr ⟨p,_,rfl,.of aq,.cons (aK.mpr rfl) (.cons (ai.mpr rfl) .nil)⟩)
     ·cases ee
    ·cases ee
 ·cases ee
end
end L3
namespace L3
open PySem
section
variable{ρ ρ' ρ1:av}{a b c:ME}{x y:MC}{o:Option Out}{s t:S}{r:Option R}
theorem fg(h:x ρ=some (.ret s)):aH x y ρ=some (.ret s):=by unfold aH;rw[h]
theorem ag(h:x ρ=some (.next ρ'))(h2:y ρ'=o):aH x y ρ=o:=by unfold aH;rw[h];exact h2
theorem jX{u v:MC}(h:c ρ=okB true)(h2:u ρ=o):jU c u v ρ=o:=by unfold jU;rw[h];exact h2
theorem gL{u v:MC}(h:c ρ=okB false)(h2:v ρ=o):jU c u v ρ=o:=by unfold jU;rw[h];exact h2
theorem aL{i:Nat}(h:a ρ=some (.ok s)):aX i a ρ=some (.next (ρ.set i (some s))):=by unfold aX;rw[h];rfl
theorem bN(h:a ρ=some (.ok s)):bL a ρ=some (.ret s):=by unfold bL;rw[h];rfl
theorem j4{i:Nat}(h:x (dem i ρ)=o):mf i x ρ=o:=h
theorem va{i:Nat}{ds:List D}(h0:ρ[i]?=some (some (.own (.lst ds))))(h:a ρ=some (.ok s))(hl:ds.length<lim):hU i a ρ=some (.next (ρ.set i (some (.own (.lst (ds++[s.val])))))):=by
 unfold hU z9;rw[h0];dsimp only;rw[h];dsimp only[fZ];rw[if_pos hl]
theorem C3{i:Nat}{ds es:List D}(h0:ρ[i]?=some (some (.own (.lst ds))))(h:a ρ=some (.ok s))(hi:jr s.val=some es)(hl:ds.length+es.length<=lim):mB i a ρ=some (.next (ρ.set i (some (.own (.lst (ds++es)))))):=by
 unfold mB z9;rw[h0];dsimp only;rw[h];dsimp only[fZ];rw[hi];dsimp only;rw[if_pos hl]
theorem gM{it:MI}{bd:MB}{body:MC}{ds:List D}(h:it ρ=some (.ok ds))(h2:e9 bd body ds ρ=o):kX it bd body ρ=o:=by unfold kX;rw[h];exact h2
theorem aO{np n:Nat}{g:MC}{ds:List D}(hl:ds.length=np)(h:g (aN n ds)=some (.ret s)):gv np n g ds=some (.ok s):=by unfold gv;rw[if_pos hl,h];rfl
theorem ah{f:D->D->Option R}(h1:a ρ=some (.ok s))(h2:b ρ=some (.ok t))(h3:f s.val t.val=r):eBin f a b ρ=r:=by unfold eBin;rw[h1];dsimp only[b9];rw[h2];exact h3
theorem jC{f:D->Option R}(h1:a ρ=some (.ok s))(h3:f s.val=r):jw f a ρ=r:=by unfold jw;rw[h1];exact h3
theorem kP(h:a ρ=okB true)(h2:b ρ=r):gQ a b ρ=r:=by unfold gQ;rw[h];exact h2
theorem yi(h:a ρ=okB false):gQ a b ρ=okB false:=by unfold gQ;rw[h];rfl
theorem Iw(h:a ρ=okB true):CI a b ρ=okB true:=by unfold CI;rw[h];rfl
theorem DJ(h:a ρ=okB false)(h2:b ρ=r):CI a b ρ=r:=by unfold CI;rw[h];exact h2
theorem IF{z:Bool}(h:a ρ=okB z):wV a ρ=okB (!z):=by unfold wV jw;rw[h];rfl
theorem tW(h:a ρ=okB true):wV a ρ=okB false:=IF h
theorem ff{F:List D->Option R}{e1:ME}{s1:S}(h1:e1 ρ=some (.ok s1))(h:F [s1.val]=r):au F [e1] ρ=r:=by unfold au bU;rw[h1];exact h
theorem bg{F:List D->Option R}{e1 e2:ME}{s1 s2:S}(h1:e1 ρ=some (.ok s1))(h2:e2 ρ=some (.ok s2))(h:F [s1.val,s2.val]=r):au F [e1,e2] ρ=r:=by
 unfold au bU;rw[h1];dsimp only[b9];unfold bU;rw[h2];exact h
theorem dW{F:List D->Option R}{e1 e2 e3:ME}{s1 s2 s3:S}(h1:e1 ρ=some (.ok s1))(h2:e2 ρ=some (.ok s2))(h3:e3 ρ=some (.ok s3))(h:F [s1.val,s2.val,s3.val]=r):au F [e1,e2,e3] ρ=r:=by
 unfold au bU;rw[h1];dsimp only[b9];unfold bU;rw[h2];dsimp only[b9];unfold bU;rw[h3];exact h
theorem kl{e1 e2:ME}{s1 s2:S}(h1:e1 ρ=some (.ok s1))(h2:e2 ρ=some (.ok s2)):eTup [e1,e2] ρ=okD (.tup [s1.val,s2.val]):=bg h1 h2 rfl
theorem nE{e1:ME}{s1:S}{n:Int}(h1:e1 ρ=some (.ok s1))(h:fV s1.val=okI n):da (f1 fV) [e1] ρ=okI n:=by
 have:bU [e1] ρ (f1 fV)=okI n:=ff (F:=f1 fV) h1 h;unfold da;rw[this];rfl
theorem bp{i:Nat}{d:D}(h:ρ[i]?=some (some (.sh d))):eVar i ρ=okD d:=by unfold eVar;rw[h]
theorem Cw{i:Nat}(h:ρ[i]?=some (some s))(hn:s.nd=true:=by rfl):uP i ρ=okD s.val:=by
 unfold uP;rw[h];cases s with
 |sh d=>rfl
 |own o=>cases o with
  |lst _=>rfl
  |obj _ _ _=>rfl
  |dic _=>cases hn
  |par _ _=>cases hn
  |fdic _=>cases hn
  |tab _=>cases hn
  |dik _=>rfl
 |two _ _ _=>cases hn
theorem BH{ds:List D}(h:a ρ=some (.ok s))(hi:jr s.val=some ds):lA a ρ=some (.ok ds):=by unfold lA;rw[h];dsimp only;rw[hi];rfl
theorem Au{i:Int}(h:a ρ=okI i)(hr:jI i=true):kG a ρ=some (.ok (rng 0 i)):=by unfold kG rW;rw[h];dsimp only[S.val];rw[if_pos hr]
theorem Ih{ds:List D}{k:Int}(h1:a ρ=okL ds)(h2:b ρ=okI k)(hk:-(2 ^ 60)<=k/\k<2 ^ 60/\ds.length * k.toNat<=lim):Cd a b ρ=okL (replicate k.toNat ds).flatten:=by
 unfold Cd;rw[h1];dsimp only;rw[h2];exact if_pos hk
theorem add_int(i j:Int):cz (.int i) (.int j)=okI (i+j):=rfl
theorem sub_int(i j:Int):uR (.int i) (.int j)=okI (i - j):=rfl
theorem mul_int{i j:Int}(h:(gm i || gm j)=true):nW (.int i) (.int j)=okI (i * j):=by unfold nW;exact if_pos h
theorem cw{i j:Int}(h:0<j):dMod (.int i) (.int j)=okI (i % j):=by unfold dMod;exact if_pos h
theorem sX{i:Int}(h1:-(2 ^ 60)<=i)(h2:i<=2 ^ 60):gm i=true:=by unfold gm;simp;omega
theorem GA{i j:Int}(h1:-(2 ^ 60)<=i)(h2:i<=2 ^ 60):nW (.int i) (.int j)=okI (i * j):=mul_int (by rw[sX h1 h2];rfl)
theorem Kd{i j:Int}(h1:-(2 ^ 60)<=j)(h2:j<=2 ^ 60):nW (.int i) (.int j)=okI (i * j):=mul_int (by rw[sX h1 h2,Bool.or_true])
theorem ix_tup{ds:List D}{d:D}{n:Nat}(h:ds[n]?=some d):dIx (.tup ds) (.int n)=okD d:=by
 have hn:n<ds.length:=(List.getElem?_eq_some_iff.mp h).1;show(xf ds (n:Int)).bind okD=_;unfold xf IV;rw[if_pos (by omega),if_pos (by omega)]
 simp[h]
theorem wC{ds:List D}{d:D}{n:Nat}(h:ds[n]?=some d):dIx (.lst ds) (.int n)=okD d:=ix_tup h
theorem Ig(n:Nat):rng 0 n=(List.range n).map λk:Nat=>D.int k:=by
 unfold rng;rw[Int.sub_zero,toNat_natCast];exact map_congr_left λk _=>by rw[Int.zero_add]
theorem lz{n:Nat}(h:n<=1000000):jI (n:Int)=true:=by unfold jI;simp;omega
theorem uJ{bd:MB}{body:MC}(Iv:Nat->av->Prop):∀(ds:List D)(i:Nat)(ρ:av),Iv i ρ->(∀(k:Nat)(ρ:av)(d:D),ds[k]?=some d->Iv (i+k) ρ->∃ρ1 ρ2,bd d ρ=some ρ1/\body ρ1=some (.next ρ2)/\Iv (i+k+1) ρ2)->
  ∃ρ',e9 bd body ds ρ=some (.next ρ')/\Iv (i+ds.length) ρ'
 |[],i,ρ,h,_=>⟨ρ,rfl,h⟩
 |d::ds,i,ρ,h,hs=>by
  obtain⟨ρ1,ρ2,e1,e2,h2⟩:=hs 0 ρ d rfl h;obtain⟨ρ',e3,h3⟩:=uJ Iv ds (i+1) ρ2 h2 λk ρ d' e hk=>by
   obtain⟨r1,r2,f1,f2,f3⟩:=hs (k+1) ρ d' (by simpa using e) (by rw[show i+(k+1)=i+1+k by omega];exact hk)
   exact⟨r1,r2,f1,f2,by rw[show i+1+k+1=i+(k+1)+1 by omega];exact f3⟩
  refine⟨ρ',?_,by rw[length_cons,show i+(ds.length+1)=i+1+ds.length by omega];exact h3⟩
  unfold e9;rw[e1];dsimp only;rw[e2];exact e3
theorem wN{bd:MB}{body:MC}(Iv:Nat->av->Prop)(n:Nat)(h0:Iv 0 ρ)(hs:∀(k:Nat)(ρ:av),k<n->Iv k ρ->∃ρ1 ρ2,bd (.int k) ρ=some ρ1/\body ρ1=some (.next ρ2)/\Iv (k+1) ρ2):
  ∃ρ',e9 bd body (rng 0 n) ρ=some (.next ρ')/\Iv n ρ':=by
 obtain⟨ρ',e,h⟩:=uJ (bd:=bd) (body:=body) Iv (rng 0 n) 0 ρ h0 λk ρ d e hk=>by
  rw[Ig,getElem?_map] at e;have hk':k<n:=by
   by_cases z:k<n
   ·exact z
   ·rw[getElem?_eq_none (by rw[length_range];omega)] at e;cases e
  rw[getElem?_range hk'] at e;cases e;rw[Nat.zero_add] at hk ⊢;exact hs k ρ hk' hk
 rw[Nat.zero_add,Ig,length_map,length_range] at h;exact⟨ρ',e,h⟩
end
inductive jc:Nat->D->Prop
 |non (n):jc n .non
 |bl (n b):jc n (.bl b)
 |int (n i):jc n (.int i)
 |str (n x):jc n (.str x)
 |tup (n ds):(∀d∈ds,jc n d)->ds.length<=lim->jc (n+1) (.tup ds)
 |lst (n ds):(∀d∈ds,jc n d)->ds.length<=lim->jc (n+1) (.lst ds)
theorem jc.mono:∀{n m:Nat}{d:D},jc n d->n<=m->jc m d:=by
 intro n m d h
 induction h generalizing m with
 |non n=>exact λ_=>.non m
 |bl n b=>exact λ_=>.bl m b
 |int n i=>exact λ_=>.int m i
 |str n x=>exact λ_=>.str m x
 |tup n ds hd hl ih=>
  intro hm;obtain⟨k,rfl⟩:∃k,m=k+1:=⟨m - 1,by omega⟩
  exact .tup k ds (λd hd=>ih d hd (by omega)) hl
 |lst n ds hd hl ih=>
  intro hm;obtain⟨k,rfl⟩:∃k,m=k+1:=⟨m - 1,by omega⟩
  exact .lst k ds (λd hd=>ih d hd (by omega)) hl
theorem uL(i:Str):pf (.str i) (.str i)=okB true:=by unfold pf Fx;simp
section
variable{ρ ρ' ρ1:av}{a b c:ME}
theorem nX{α:Type}{bd:MB}{cond elt:ME}{g:α->D}{f:α->D}{p:α->Bool}:∀(xs:List α)(acc:List D),(∀x∈xs,∃ρ1,bd (g x) ρ=some ρ1/\cond ρ1=okB (p x)/\(p x=true->∃s,elt ρ1=some (.ok s)/\s.val=f x))->acc.length+xs.length<=lim->gR bd cond elt ρ (xs.map g) acc=okL (acc++(xs.filter p).map f)
 |[],acc,_,hl=>by
  rw[map_nil];unfold gR;rw[if_pos (by simpa using hl)]
  simp
 |x::xs,acc,h,hl=>by
  obtain⟨ρ1,e1,e2,e3⟩:=h x mem_cons_self;rw[map_cons];unfold gR;rw[e1];dsimp only;rw[e2];show(if p x=true then(b9 (elt ρ1) λy=>gR bd cond elt ρ (xs.map g) (acc++[y])) else gR bd cond elt ρ (xs.map g) acc)=_;rw[length_cons] at hl;by_cases hp:p x=true
  ·obtain⟨s,e4,e5⟩:=e3 hp;rw[if_pos hp,e4];show gR bd cond elt ρ (xs.map g) (acc++[s.val])=_;rw[e5,nX xs (acc++[f x]) (λy hy=>h y (mem_cons_of_mem _ hy)) (by rw[length_append,length_singleton];omega)]
   simp[hp]
  ·rw[if_neg hp,nX xs acc (λy hy=>h y (mem_cons_of_mem _ hy)) (by omega)]
   simp[hp]
theorem EI{α:Type}{js:List Nat}{it:MI}{bd:MB}{cond elt:ME}(xs:List α)(g:α->D)(p:α->Bool)(f:α->D)(hi:it ρ=some (.ok (xs.map g)))(hl:xs.length<=lim)
  (h:∀x∈xs,∃ρ1,bd (g x) (d8 js ρ)=some ρ1/\cond ρ1=okB (p x)/\(p x=true->∃s,elt ρ1=some (.ok s)/\s.val=f x)):qi js it bd cond elt ρ=okL ((xs.filter p).map f):=by
 unfold qi;rw[hi];dsimp only;rw[if_pos (by rw[length_map];exact hl),nX xs [] h (by simpa using hl)]
 rfl
theorem JZ(lo:Nat)(hi:Nat):rng lo hi=(List.range (hi - lo)).map λk:Nat=>D.int (lo+k:Nat):=by
 unfold rng;have:((hi:Int) - (lo:Int)).toNat=hi - lo:=by omega
 rw[this];exact map_congr_left λk _=>by congr 1
theorem Da(i j:Nat):Cg (.int i) (.int j)=okI ((i >>> j:Nat):Int):=by
 show(if(0:Int)<=(j:Int) then okI ((i:Int) / 2 ^ (j:Int).toNat) else none)=_;rw[if_pos (by omega),toNat_natCast,Nat.shiftRight_eq_div_pow,Int.natCast_ediv,Int.natCast_pow]
 rfl
theorem Cv(i j:Nat):uS (.int i) (.int j)=okI ((i &&& j:Nat):Int):=by
 show(if 0<=(i:Int)/\0<=(j:Int) then okI (((i:Int).toNat &&& (j:Int).toNat:Nat):Int) else none)=_;rw[if_pos (by omega),toNat_natCast,toNat_natCast]
theorem ES(i j:Nat):Ha (.int i) (.int j)=okI ((i ||| j:Nat):Int):=by
 show(if 0<=(i:Int)/\0<=(j:Int) then okI (((i:Int).toNat ||| (j:Int).toNat:Nat):Int) else none)=_;rw[if_pos (by omega),toNat_natCast,toNat_natCast]
theorem Ko(w k:Nat):(w >>> k &&& 1)=(w.testBit k).toNat:=by
 unfold Nat.testBit;rw[Nat.and_comm];have h:1 &&& w >>> k=(w >>> k) % 2:=by rw[Nat.and_comm,Nat.and_one_is_mod]
 rw[h];have:(w >>> k) % 2=0\/(w >>> k) % 2=1:=by omega
 rcases this with e|e <;> rw[e] <;> rfl
theorem Jn{w k:Nat}{a b:ME}(h1:a ρ=okI w)(h2:b ρ=okI k):eBin uS (eBin Cg a b) (eC (.int 1)) ρ=okI ((w.testBit k).toNat:Int):=by
 rw[←Ko];exact ah (ah h1 h2 (Da w k)) rfl (Cv _ 1)
theorem EU{w k:Nat}{a b:ME}(h1:a ρ=okI w)(h2:b ρ=okI k):eBin pf (eBin uS (eBin Cg a b) (eC (.int 1))) (eC (.int 0)) ρ=okB (!w.testBit k):=by
 refine ah (Jn h1 h2) rfl ?_;cases w.testBit k <;> rfl
theorem IS(i j:Int):EF (.int i) (.int j)=okB (decide (i<j)):=rfl
theorem Ja(i j:Int):xZ (.int i) (.int j)=okB (decide (j<i)):=rfl
theorem wU(i j:Int):pf (.int i) (.int j)=okB (decide (i=j)):=rfl
theorem Kc(i j:Int):Ci (.int i) (.int j)=okB (!decide (i=j)):=rfl
theorem IP{i j:Int}(h:i<j):EF (.int i) (.int j)=okB true:=by rw[IS,decide_eq_true h]
theorem IR{i j:Int}(h:¬i<j):EF (.int i) (.int j)=okB false:=by rw[IS,decide_eq_false h]
theorem wJ{i j:Int}(h:j<i):xZ (.int i) (.int j)=okB true:=by rw[Ja,decide_eq_true h]
theorem BN{i j:Int}(h:¬j<i):xZ (.int i) (.int j)=okB false:=by rw[Ja,decide_eq_false h]
theorem C8{i j:Int}(h:i=j):pf (.int i) (.int j)=okB true:=by rw[wU,decide_eq_true h]
theorem Eo{i j:Int}(h:¬i=j):pf (.int i) (.int j)=okB false:=by rw[wU,decide_eq_false h]
theorem Kb{i j:Int}(h:i=j):Ci (.int i) (.int j)=okB false:=by rw[Kc,decide_eq_true h];rfl
theorem Cr{F:List D->Option R}{e1 e2 e3 e4:ME}{s1 s2 s3 s4:S}{r:Option R}(h1:e1 ρ=some (.ok s1))(h2:e2 ρ=some (.ok s2))(h3:e3 ρ=some (.ok s3))(h4:e4 ρ=some (.ok s4))(h:F [s1.val,s2.val,s3.val,s4.val]=r):au F [e1,e2,e3,e4] ρ=r:=by
 unfold au bU;rw[h1];dsimp only[b9];unfold bU;rw[h2];dsimp only[b9];unfold bU;rw[h3];dsimp only[b9];unfold bU;rw[h4];exact h
theorem nL{f:D->D->Option R}{a b:ME}{ρ:av}:eBin f a b ρ=b9 (a ρ) (λx=>b9 (b ρ) (f x)):=rfl
theorem BZ{i j:Int}(h:0<j)(h2:j<1073741824):y0 (.int i) (.int j)=okI (i / j):=by unfold y0;exact if_pos ⟨h,h2⟩
theorem Fm(i:Int):GY (.int i)=okI (-i):=rfl
theorem IW:Ck (.bl true)=okI 1:=rfl
theorem IX:Ck (.bl false)=okI 0:=rfl
theorem Bu:lim=1000000:=rfl
theorem BG{d:D}{ds:List D}:dIx (.lst (d::ds)) (.int 0)=okD d:=wC (n:=0) rfl
theorem BF{d e:D}{ds:List D}:dIx (.lst (d::e::ds)) (.int 1)=okD e:=wC (n:=1) rfl
theorem bC{d:D}{ds:List D}:dIx (.tup (d::ds)) (.int 0)=okD d:=ix_tup (n:=0) rfl
theorem cS{d e:D}{ds:List D}:dIx (.tup (d::e::ds)) (.int 1)=okD e:=ix_tup (n:=1) rfl
theorem lT{d e f:D}{ds:List D}:dIx (.tup (d::e::f::ds)) (.int 2)=okD f:=ix_tup (n:=2) rfl
theorem Fq{d e f g:D}{ds:List D}:dIx (.tup (d::e::f::g::ds)) (.int 3)=okD g:=ix_tup (n:=3) rfl
theorem GU{α:Type}(xs:List α)(g:α->D)(z:α){a:ME}{ρ:av}{s:S}(h:a ρ=some (.ok s))(hs:s.val=.lst (xs.map g)\/s.val=.tup (xs.map g)):xR a ρ=some (.ok ((List.range xs.length).map λi:Nat=>D.tup [.int i,g (xs.getD i z)])):=by
 have e:(List.range (xs.map g).length).zipWith (λ(i:Nat) d=>D.tup [.int i,d]) (xs.map g)=(List.range xs.length).map λi:Nat=>D.tup [.int i,g (xs.getD i z)]:=by
  refine List.ext_getElem? λi=>?_;rw[List.getElem?_zipWith,length_map];by_cases hi:i<xs.length
  ·rw[getElem?_range hi,getElem?_map,getElem?_eq_getElem hi,getElem?_map,getElem?_range hi];simp only[Option.map_some,List.getD_eq_getElem?_getD,getElem?_eq_getElem hi,Option.getD_some]
  ·rw[getElem?_eq_none (l:=List.range xs.length) (by rw[length_range];omega),getElem?_eq_none (l:=(List.range xs.length).map λi:Nat=>D.tup [.int i,g (xs.getD i z)]) (by rw[length_map,length_range];omega)]
 unfold xR rW;rw[h];dsimp only;rcases hs with hs|hs
 ·rw[hs];show some (RI.ok _)=_;rw[e]
 ·rw[hs];show some (RI.ok _)=_;rw[e]
theorem t8{a b:ME}{ρ:av}{i j:Int}(h:a ρ=okI i)(h2:b ρ=okI j)(hr:jI i=true)(hr2:jI j=true):ia a b ρ=some (.ok (rng i j)):=by
 unfold ia rW;rw[h];dsimp only[S.val];rw[h2];dsimp only[S.val];rw[if_pos ⟨hr,hr2⟩]
end
section
variable{ρ:av}{a b e1 e2 e3 e4:ME}{s s1 s2 s3 s4:S}{o o1:O}{r:Option O}{q:Option R}{F:jQ}{c:String}{f m:Str}{ns:List Str}{ds:List D}{cs:List String}
theorem Jo(h:e1 ρ=some (.ok s1))(h2:F o [s1.val]=r):uB F [e1] ρ o=r:=by unfold uB aI;rw[h];exact h2
theorem Ie{g h:MG}(h1:g ρ o=some o1)(h2:h ρ o1=r):pZ g h ρ o=r:=by unfold pZ;rw[h1];exact h2
theorem Fv{np n:Nat}{g:MG}(hl:ds.length+1=np)(h:g (none::aN (n - 1) ds) o=r):Fw np n g o ds=r:=by unfold Fw;rw[if_pos hl];exact h
theorem FR(h:e1 ρ=some (.ok s))(hc:cs.contains c=true)(hl:ns.length=ds.length)(h9:ns.length<900):pY cs f e1 ρ (.obj c ns ds)=some (.obj c (putN f ns) (yN f s.val ns ds)):=by
 unfold pY;rw[h];dsimp only;rw[if_pos ⟨hc,hl,h9⟩]
theorem IL(h1:e1 ρ=some (.ok s1))(h:F (.obj c [] []) [s1.val]=some o):xV c F [e1] ρ=some (.ok (.own o)):=by
 unfold xV bU;rw[h1];dsimp only[b9];unfold bU;dsimp only;rw[h]
theorem Bh{tb:String->Option (List D->Option R)}{as:List ME}{G:List D->Option R}(ho:a ρ=some (.ok s))(hv:s.val=.obj c ns ds)(hn:ns.contains m=false)(ht:tb c=some G):jK m tb a as ρ=bU as ρ λvs=>G (.obj c ns ds::vs):=by
 unfold jK;rw[ho];dsimp only[b9];rw[hv];dsimp only;rw[hn,if_neg Bool.false_ne_true,ht]
theorem IK{tb:String->Option (List D->Option R)}{G:List D->Option R}(ho:a ρ=some (.ok s))(hv:s.val=.obj c ns ds)(hn:ns.contains m=false)(ht:tb c=some G)(h:G [.obj c ns ds]=q):jK m tb a [] ρ=q:=by rw[Bh ho hv hn ht];exact h
theorem IJ{tb:String->Option (List D->Option R)}{G:List D->Option R}(ho:a ρ=some (.ok s))(hv:s.val=.obj c ns ds)(hn:ns.contains m=false)(ht:tb c=some G)(h1:e1 ρ=some (.ok s1))(h2:e2 ρ=some (.ok s2))(h3:e3 ρ=some (.ok s3))(h:G [.obj c ns ds,s1.val,s2.val,s3.val]=q):jK m tb a [e1,e2,e3] ρ=q:=by
 rw[Bh ho hv hn ht];exact dW (F:=λvs=>G (.obj c ns ds::vs)) h1 h2 h3 h
theorem Jd{d:D}(h:a ρ=some (.ok s))(hv:s.val=.obj c ns ds)(hc:cs.contains c=true)(hf:wQ f ns ds=some d):jw (Cn cs f) a ρ=okD d:=by
 refine jC h ?_;rw[hv];show(if cs.contains c=true then(wQ f ns ds).bind okD else none)=_;rw[if_pos hc,hf];rfl
theorem Ft(h:a ρ=okB true)(h2:e1 ρ=q):GV a e1 e2 ρ=q:=by unfold GV;rw[h];exact h2
theorem Fu(h:a ρ=okB false)(h2:e2 ρ=q):GV a e1 e2 ρ=q:=by unfold GV;rw[h];exact h2
theorem FB{xs ys:List D}(h:xs.length+ys.length<=100000):cz (.tup xs) (.tup ys)=okD (.tup (xs++ys)):=by
 show(if xs.length+ys.length<=lim then okD (.tup (xs++ys)) else none)=_;rw[if_pos (le_trans h (by decide))]
theorem Jl{xs ys:List D}(h:xs.length+ys.length<=100000):cz (.lst xs) (.lst ys)=okL (xs++ys):=by
 show(if xs.length+ys.length<=lim then okL (xs++ys) else none)=_;rw[if_pos (le_trans h (by decide))]
theorem Em{x y:Str}(h:x=y):pf (.str x) (.str y)=okB true:=by subst h;exact uL x
theorem DY{x y:Str}(h:x≠y):Ci (.str x) (.str y)=okB true:=by unfold Ci Fx;simp[h]
theorem DZ{x y:Str}(h:x=y):Ci (.str x) (.str y)=okB false:=by unfold Ci Fx;simp[h]
end
end L3
namespace Bell
open PySem L3
noncomputable section
def uh:MC:=
 (bL (eBin dIx (eBin dIx (eBin dIx (eVar 0) (eC (.int 1))) (eVar 1)) (eC (.int 2))))
def br:List D->Option R:=gv 2 2 uh
def zD:MC:=
 (bL (eBin dIx (eBin dIx (au br [(eVar 0),(eVar 1)]) (eVar 2)) (eC (.int 0))))
def dw:List D->Option R:=gv 3 3 zD
def uq:MC:=
 (bL (eBin pf (eBin dIx (eVar 1) (eC (.int 1))) (da (f1 fV) [(au br [(eVar 0),(eBin dIx (eVar 1) (eC (.int 0)))])])))
def bI:List D->Option R:=gv 2 2 uq
def kS:MC:=(bL (eVar 2))
def gy:MC:=(aH (jU (CI (eBin pf (eVar 2) (da (f1 fV) [(au br [(eVar 0),(eBin dIx (eVar 1) (eC (.int 0)))])])) (eBin Ci (eBin dIx (au dw [(eVar 0),(eBin dIx (eVar 1) (eC (.int 0))),(eVar 2)]) (eC (.int 0))) (eC (.str "none")))) (bL (eC .non)) cb) kS)
def nC:MC:=
 (aH (aX 2 (GV (eBin pf (eBin dIx (eVar 1) (eC (.int 2))) (eC (.int 0))) (eBin dIx (eVar 1) (eC (.int 1))) (eBin cz (eBin dIx (eVar 1) (eC (.int 1))) (eC (.int 1))))) gy)
def dJ:List D->Option R:=gv 2 3 nC
def GO:ME:=(eC (.bl true))
def C2:List D->Option R:=KF 1 GO
def HN:Nat->Option (List D->Option R)
 |0=>some C2
 |_=>none
def kE:CA:=
 (JB (eBin (JA true) (eBin dIx (eVar 1) (eC (.int 0))) (eTup [(eC (.str "is")),(eC (.str "most"))])) (He 0 []) Cs)
def dI:List D->Option R:=GS 2 4 kE
def mm:MC:=(jU (gQ (jw kK (eVar 6)) Ce) (hU 4 (eTup [(eBin dIx (eVar 5) (eC (.int 0))),(eVar 6)])) cb)
def jN:MC:=(aH (aX 6 (au dJ [(eVar 0),(eVar 5)])) mm)
def oK:MC:=(mf 4 (bL (au (f1 nU) [(eVar 4)])))
def oM:MC:=(aH (jU (wV (sd HN (au dI [(eBin dIx (eVar 0) (eC (.int 0))),(au dw [(eVar 0),(eBin dIx (eVar 3) (eC (.int 0))),(eBin dIx (eVar 3) (eC (.int 1)))])]) (eVar 2))) (hU 4 (eTup [(eBin dIx (eVar 3) (eC (.int 0))),(eBin dIx (eVar 3) (eC (.int 1)))])) cb) oK)
def oN:MC:=(aH (kX (lA (ic (eVar 1) none (some (eC (.int (-1)))))) (cy 5) jN) oM)
def oO:MC:=(aH (aX 4 (eLst [])) oN)
def oP:MC:=(aH (jU (au bI [(eVar 0),(eVar 3)]) (bL (eTup [])) cb) oO)
def uv:MC:=
 (aH (aX 3 (eBin dIx (eVar 1) (eC (.int (-1))))) oP)
def eU:List D->Option R:=gv 3 7 uv
def Br:MC:=
 (bL (au eU [(eVar 0),(eBin dIx (eVar 1) (eC (.int 0))),(eBin dIx (eVar 1) (eC (.int 1)))]))
def cj:List D->Option R:=gv 2 2 Br
def fN:MC:=(jU (gQ (CI (jw sf (eVar 2)) (eBin EF (eBin dIx (eVar 4) (eC (.int 1))) (eBin dIx (eBin dIx (eVar 1) (eVar 2)) (eC (.int 1))))) (eBin (GZ 1) (au cj [(eVar 0),(eBin dIx (eVar 4) (eC (.int 0)))]) (eTup []))) (aX 2 (eVar 3)) cb)
def jR:MC:=(bL (eVar 2))
def jS:MC:=(aH (kX (xR (eVar 1)) (EV [3,4]) fN) jR)
def lr:MC:=
 (aH (aX 2 (eC .non)) jS)
def cQ:List D->Option R:=gv 2 5 lr
def BQ:MG:=
 (pZ (pY ["Still"] "plan" (eVar 1)) BL)
def wF:jQ:=Fw 2 2 BQ
def zL:MG:=
 (pZ (uB wF [(Cd (eLst [(eTup [(eTup []),(eTup [])])]) (eVar 1))]) BL)
def rV:jQ:=Fw 2 2 zL
def sR:MC:=(aH (jU (eBin pf (eVar 2) (eC (.str "still"))) (bL (xV "Still" rV [(eBin dIx (eVar 1) (eC (.int 1)))])) cb) mX)
def zC:MC:=
 (aH (aX 2 (eBin dIx (eVar 1) (eC (.int 0)))) sR)
def jv:List D->Option R:=gv 2 5 zC
def rQ:MC:=
 (bL (eTup [(eVar 2),(eVar 3),(eBin cz (eVar 1) (eC (.int 1)))]))
def dN:List D->Option R:=gv 4 4 rQ
def rP:MC:=
 (bL (da (f1 fV) [(jw (Cn ["Still"] "plan") (eVar 0))]))
def dM:List D->Option R:=gv 1 1 rP
def mP:String->Option (List D->Option R):=(Jw ["Still"] dN Ab)
theorem mO:mP "Still" = some dN:=rfl
def iE:String->Option (List D->Option R):=(Jw ["Still"] dM Ab)
theorem mM:iE "Still" = some dM:=rfl
def vz:MC:=(bL (eTup [(eBin cz (ic (eVar 1) none (some (eC (.int (-1))))) (eTup [(eVar 6)])),(eBin dIx (eVar 5) (eC (.int 0)))]))
def vA:MC:=(aH (jU (gQ (eBin xZ (eBin dIx (eVar 6) (eC (.int 0))) (eC (.int 0))) (au bI [(eVar 0),(eVar 6)])) (bL (eTup [(ic (eVar 1) none (some (eC (.int (-1))))),(eBin dIx (eVar 5) (eC (.int 0)))])) cb) vz)
def vB:MC:=(mf 4 (aH (jU (eBin EF (eBin dIx (eVar 5) (eC (.int 2))) (jK "turns" iE (eVar 4) [])) (aX 6 (eTup [(eBin dIx (eVar 3) (eC (.int 0))),(eBin dIx (eVar 3) (eC (.int 1))),(eBin dIx (eVar 5) (eC (.int 2))),(eBin dIx (eVar 5) (eC (.int 1)))])) (aX 6 (eTup [(eBin dIx (eVar 3) (eC (.int 0))),(eBin cz (eBin dIx (eVar 3) (eC (.int 1))) (eC (.int 1))),(eC (.int 0)),(eTup [])]))) vA))
def vC:MC:=(mf 4 (aH (aX 5 (jK "after" mP (eVar 4) [(eBin dIx (eVar 3) (eC (.int 2))),(eVar 2),(eBin dIx (eVar 3) (eC (.int 3)))])) vB))
def vE:MC:=(aH (aX 4 (au jv [(eBin dIx (eVar 0) (eC (.int 0))),(au dw [(eVar 0),(eBin dIx (eVar 3) (eC (.int 0))),(eBin dIx (eVar 3) (eC (.int 1)))])])) vC)
def vF:MC:=(aH (jU (au bI [(eVar 0),(eVar 3)]) (bL (eC .non)) cb) vE)
def Bo:MC:=
 (aH (aX 3 (eBin dIx (eVar 1) (eC (.int (-1))))) vF)
def gN:List D->Option R:=gv 3 7 Bo
def Bs:MC:=
 (bL (au gN [(eVar 0),(eBin dIx (eVar 1) (eC (.int 0))),(eBin dIx (eVar 1) (eC (.int 1)))]))
def ck:List D->Option R:=gv 2 2 Bs
def oj:MC:=(aX 1 (vh (au ck [(eVar 0),(eVar 1)])))
def om:MC:=(aH (pF 4 (eVar 1) (eVar 2)) oj)
def cR:MC:=(aH (jU (eBin pf (nQ 4) (eVar 3)) (qP "TooMany" "most" (eVar 3)) cb) om)
def wA:MC:=
 (qO (λ_=>5000) (gQ (jw kK (eVar 1)) (gP true 4 (eVar 1))) cR)
def ek:F1:=wO 4 5 5 wA
def jM:MC:=(mB 1 (eBin dIx (eVar 2) (eC (.int 1))))
def oz:MC:=(mf 1 (bL (au (f1 nU) [(eVar 1)])))
def oA:MC:=(aH (kX (lA (eVar 0)) (cy 2) jM) oz)
def ug:MC:=
 (aH (aX 1 (eLst [])) oA)
def cI:List D->Option R:=gv 1 3 ug
def E8:MC:=
 (bL (eTup [(eTup [(eTup [(eC (.int 0)),(eC (.int 0)),(eC (.int 0)),(eTup [])])]),(au cI [(eBin dIx (eVar 0) (eC (.int 0)))])]))
def fq:List D->Option R:=gv 1 1 E8
def zB:MC:=
 (bL (eBin cz (eVar 0) (eTup [(eTup [(eVar 1),(eC (.int 0)),(eC (.int 0)),(eTup [])])])))
def lD:List D->Option R:=gv 2 2 zB
def GB:MC:=
 (bL (eTup [(au lD [(eBin dIx (eVar 1) (eC (.int 0))),(eVar 2)]),(eBin dIx (eVar 1) (eC (.int 1)))]))
def ib:List D->Option R:=gv 3 3 GB
def sN:MC:=(bL (GV (eBin EF (eVar 2) (da (f1 fV) [(uP 3)])) (eBin dIx (eBin dIx (eVar 3) (eVar 2)) (eC (.int 1))) (eC (.int 0))))
def zz:MC:=
 (aH (aX 3 (au br [(eVar 0),(eVar 1)])) sN)
def jt:List D->Option R:=gv 3 4 zz
def lX:MC:=(aX 2 (eBin Ha (eVar 2) (au jt [(eVar 0),(eBin dIx (eVar 3) (eC (.int 0))),(eBin dIx (eVar 3) (eC (.int 1)))])))
def sO:MC:=(bL (eVar 2))
def sP:MC:=(aH (kX (lA (eVar 1)) (cy 3) lX) sO)
def zA:MC:=
 (aH (aX 2 (eC (.int 0))) sP)
def ju:List D->Option R:=gv 2 4 zA
def oB:MC:=(bL (gQ (eBin xZ (eBin dIx (eBin dIx (eVar 3) (eVar 2)) (eC (.int 1))) (eBin dIx (eBin dIx (eVar 3) (eBin dIx (eBin dIx (eVar 1) (eC (.int (-1)))) (eC (.int 0)))) (eC (.int 1)))) (eBin pf (eBin uS (eBin Cg (au ju [(eVar 0),(eVar 1)]) (eVar 2)) (eC (.int 1))) (eC (.int 0)))))
def ui:MC:=
 (aH (aX 3 (eBin dIx (eVar 0) (eC (.int 1)))) oB)
def eQ:List D->Option R:=gv 3 4 ui
def wz:MC:=
 (bL (qi [2] (ia (eC (.int 1)) (da (f1 fV) [(eBin dIx (eVar 0) (eC (.int 1)))])) (cy 2) (au eQ [(eVar 0),(eBin dIx (eVar 1) (eC (.int 0))),(eVar 2)]) (eVar 2)))
def d9:List D->Option R:=gv 2 3 wz
def lJ:MC:=(gZ 3 ek [(eVar 0),(vh (au ib [(eVar 0),(eVar 7),(eVar 8)])),(eVar 5),(eVar 2)] [])
def jy:MC:=(kX (lA (vh (au d9 [(eVar 0),(eVar 7)]))) (cy 8) lJ)
def v8:MC:=(mf 6 (kX (lA (eVar 6)) (cy 7) jy))
def v9:MC:=(aH (aX 4 (nQ 3)) v8)
def jx:MC:=(aH (aX 6 (ic (qh 3) (some (eVar 4)) none)) v9)
def yx:MC:=(bL (lG 3))
def yz:MC:=(aH (kX (ia (eC (.int 1)) (eBin cz (eVar 1) (eC (.int 1)))) (cy 5) jx) yx)
def yA:MC:=(aH (aX 4 (eC (.int 0))) yz)
def yB:MC:=(aH (gZ 3 ek [(eVar 0),(vh (au fq [(eVar 0)])),(eC (.int 0)),(eVar 2)] []) yA)
def E7:MC:=
 (aH (An 3) yB)
def eF:List D->Option R:=gv 3 9 E7
def vH:MC:=(aH (jU (jw sf (eVar 4)) (mf 3 (bL (eTup [(eC .non),(eVar 3)]))) cb) mX)
def vI:MC:=(mf 3 (aH (aX 4 (vh (au cQ [(eVar 0),(eVar 3)]))) vH))
def Bq:MC:=
 (aH (aX 3 (au eF [(eVar 0),(eVar 1),(eVar 2)])) vI)
def j2:List D->Option R:=gv 3 5 Bq
def vG:MC:=(aH (jU (jw sf (eBin dIx (eVar 3) (eC (.int 0)))) (bL (eTup [(eC (.str "shut")),(eLst []),(eBin dIx (eVar 3) (eC (.int 1))),(eLst [])])) cb) mX)
def Bp:MC:=
 (aH (aX 3 (au j2 [(eVar 0),(eVar 1),(eVar 2)])) vG)
def cJ:List D->Option R:=gv 3 11 Bp
def oH:MC:=(hJ "TooMany" "most" "refused" 3 (uO (jw sf (eVar 1)) (mI cJ (300) [(eVar 0),(eC (.int 1))]) (se cJ [(eVar 0),(eC (.int 1)),(eVar 1)])))
def oJ:MC:=(aH (aX 3 (eC .non)) oH)
def um:MC:=
 (aH (aX 2 (eC .non)) oJ)
def eS:List D->Option R:=gv 2 5 um
def jF:MC:=(bL (eBin dMod (eBin nW (eVar 3) (eVar 3)) (eC (.int 65519))))
def gj:MC:=(aH (aX 3 (eBin dMod (eBin cz (eBin cz (eBin nW (eBin dMod (eVar 2) (eC (.int 1000003))) (eC (.int 48271))) (eBin nW (eBin nW (eVar 1) (eVar 1)) (eC (.int 7919)))) (eC (.int 1))) (eC (.int 65521)))) jF)
def oG:MC:=(aH (jU (eBin xZ (da (f1 fV) [(uP 0)]) (eC (.int 0))) (aX 2 (eBin dIx (eVar 0) (eBin dMod (eVar 1) (da (f1 fV) [(uP 0)])))) cb) gj)
def uk:MC:=
 (aH (aX 2 (eC (.int 0))) oG)
def aD:List D->Option R:=gv 2 4 uk
def cA:MC:=(bL (eBin uR (eBin dMod (eBin cz (eBin nW (eVar 2) (eC (.int 65519))) (eVar 3)) (eC (.int 2000000001))) (eC (.int 1000000000))))
def cB:MC:=(aH (jU (eBin pf (eBin dMod (eVar 2) (eC (.int 17))) (eC (.int 1))) (bL (eBin dIx (eLst [(eBin EE (eC (.int 10)) (eC (.int 9))),(jw GY (eBin EE (eC (.int 10)) (eC (.int 9))))]) (eBin dMod (eVar 3) (eC (.int 2))))) cb) cA)
def cC:MC:=(aH (jU (eBin pf (eBin dMod (eVar 2) (eC (.int 3))) (eC (.int 0))) (bL (eBin uR (eBin dMod (eVar 3) (eC (.int 5))) (eC (.int 2)))) cb) cB)
def cD:MC:=(aH (aX 3 (au aD [(eVar 0),(eBin cz (eVar 1) (eC (.int 1)))])) cC)
def dG:MC:=
 (aH (aX 2 (au aD [(eVar 0),(eVar 1)])) cD)
def aV:List D->Option R:=gv 2 4 dG
def oC:MC:=(bL (gQ (jw (Cj "list") (eBin dIx (eVar 0) (eC (.int 2)))) (eBin pf (da (f1 fV) [(eBin dIx (eVar 0) (eC (.int 2)))]) (eVar 1))))
def oE:MC:=(aH (jU (CI (eBin Ci (da (f1 fV) [(uP 0)]) (eC (.int 4))) (CI (eBin Ci (eBin dIx (eVar 0) (eC (.int 0))) (eC (.str "shut"))) (CI (eBin wZ (eBin dIx (eVar 0) (eC (.int 1))) (eLst [])) (eBin wZ (eBin dIx (eVar 0) (eC (.int 3))) (eLst []))))) (bL (eC (.bl false))) cb) oC)
def oF:MC:=(aH (jU (eBin xZ (eVar 1) (eVar 2)) (bL (eBin (Jj 2) (eVar 0) (eTup [(eC (.str "refused")),(eVar 2)]))) cb) oE)
def uj:MC:=
 (aH (jU (wV (jw (Cj "tuple") (eVar 0))) (bL (eC (.bl false))) cb) oF)
def eR:List D->Option R:=gv 3 3 uj
def lK:MC:=(aX 0 (eBin uR (eVar 0) (eC (.int 9))))
def fM:MC:=(aH (hU 1 (eTup [(eTup [(eC (.str "still")),(au (f2 Fz) [(eC (.int 9)),(eVar 0)])]),(eC (.int 0))])) lK)
def mQ:MC:=(mf 1 (bL (au (f1 nU) [(eVar 1)])))
def mR:MC:=(aH (qO (λ_=>5000) (eBin xZ (eVar 0) (eC (.int 0))) fM) mQ)
def rO:MC:=
 (aH (aX 1 (eLst [])) mR)
def fo:List D->Option R:=gv 1 2 rO
def zX:MC:=(hU 3 (eTup [(eBin dIx (eC (.str "pqr")) (eVar 5)),(eVar 2),(eTup [(eTup [(eTup [(eC (.str "still")),(eVar 12)]),(eC (.int 0))])])]))
def qu:MC:=(aH (aX 4 (eBin cz (eVar 4) (eVar 12))) zX)
def zY:MC:=(aH (jU (eVar 1) (aX 12 (eC (.int 9))) cb) qu)
def yd:MC:=(aH (aX 12 (eBin cz (eC (.int 1)) (eBin dMod (au aD [(eVar 0),(eBin cz (eC (.int 5)) (eVar 5))]) (eC (.int 3))))) zY)
def yc:MC:=(jU (wV (au eR [(au eS [(eVar 8),(eVar 11)]),(eVar 9),(eBin dIx (eLst [(eVar 11),(eC (.int 300))]) (au (f1 Ck) [(jw sf (eVar 11))]))])) (bL (eC (.bl false))) cb)
def Ac:MC:=(bL (eC (.bl true)))
def Ad:MC:=(mf 10 (aH (kX (lA (eVar 10)) (cy 11) yc) Ac))
def sQ:MC:=(aH (jU (eVar 1) (aX 10 (eLst [(eC .non),(eC (.int 400))])) cb) Ad)
def Ae:MC:=(aH (aX 10 (eLst [(eBin uR (eBin cz (eVar 9) (eBin dMod (au aD [(eVar 0),(eC (.int 13))]) (eC (.int 5)))) (eC (.int 2)))])) sQ)
def CV:MC:=(aH (aX 9 (eBin cz (eVar 6) (eBin nW (eVar 6) (eVar 4)))) Ae)
def CW:MC:=(mf 3 (aH (aX 8 (eTup [(eVar 7),(au (f1 nU) [(eBin cz (eLst [(eTup [(eC (.str "main")),(eC (.int 0)),(au fo [(eBin uR (eVar 6) (eC (.int 1)))])])]) (eVar 3))])])) CV))
def xr:MC:=(aH (aX 7 (eBin dIx (eLst [(eTup []),(eTup [(eTup [(eC (.str "a")),(eTup [(au aV [(eVar 0),(eC (.int 10))])])])])]) (eBin dMod (au aD [(eVar 0),(eC (.int 12))]) (eC (.int 2))))) CW)
def xu:MC:=(aH (jU (eVar 1) (aX 6 (eBin cz (eBin y0 (eC (.int 300)) (eBin cz (eC (.int 1)) (eVar 4))) (eBin dMod (au aD [(eVar 0),(eC (.int 9))]) (eC (.int 2))))) cb) xr)
def qH:MC:=(aH (aX 6 (eBin cz (eC (.int 2)) (eBin dMod (au aD [(eVar 0),(eC (.int 9))]) (eC (.int 5))))) xu)
def CY:MC:=(aH (kX (kG (eBin cz (eC (.int 1)) (eBin dMod (au aD [(eVar 0),(eC (.int 2))]) (eC (.int 3))))) (cy 5) yd) qH)
def CZ:MC:=(aH (aX 4 (eC (.int 0))) CY)
def D0:MC:=(aH (aX 3 (eLst [])) CZ)
def D1:MC:=(aH (aX 2 (eBin cz (eC (.int 1)) (eBin dMod (au aD [(eVar 0),(eC (.int 4))]) (eC (.int 9))))) D0)
def Fn:MC:=
 (aH (aX 1 (eBin pf (eBin dMod (au aD [(eVar 0),(eC (.int 1))]) (eC (.int 8))) (eC (.int 1)))) D1)
def xS:List D->Option R:=gv 1 13 Fn
end
end Bell
namespace Bell
section
variable{α:Type}{nxt:α->Option α}{com:α->List α}{most:Nat}
def aR(T:List (α×Int)):List α:=T.map (·.1)
theorem e7(T U:List (α×Int)):aR (T++U)=aR T++aR U:=map_append
inductive Walk(nxt:α->Option α)(most:Nat)(p:Int):Option α->List (α×Int)->Option (List (α×Int))->Prop
 |stop (T):Walk nxt most p none T (some T)
 |seen (s T) (h:s∈aR T):Walk nxt most p (some s) T (some T)
 |full (s T) (h:s∉aR T) (e:T.length=most):Walk nxt most p (some s) T none
 |step (s T r) (h:s∉aR T) (e:T.length<most) (w:Walk nxt most p (nxt s) (T++[(s,p)]) r):Walk nxt most p (some s) T r
open Classical in
structure Ho(nxt:α->Option α)(most:Nat)(p:Int)(os:Option α)(T E:List (α×Int)):Prop where
 price:∀r∈E,r.2=p
 nd:(aR T).Nodup->(aR (T++E)).Nodup
 len:T.length<=most->(T++E).length<=most
 here:∀s,os=some s->s∈aR (T++E)
 on:∀r∈E,∀s',nxt r.1=some s'->s'∈aR (T++E)
 due:∀A r B,E=A++r::B->(A=[]/\os=some r.1)\/∃r'∈A,nxt r'.1=some r.1
theorem mw{p:Int}{os:Option α}{T:List (α×Int)}{r:Option (List (α×Int))}(w:Walk nxt most p os T r):∀T',r=some T'->∃E,T'=T++E/\Ho nxt most p os T E:=by
 induction w with
 |stop T=>exact λT' e=>by cases e;exact⟨[],(append_nil _).symm,⟨nofun,λh=>by rwa[append_nil],λh=>by rwa[append_nil],nofun,nofun,λA r B e=>by cases A <;> cases e⟩⟩
 |seen s T h=>exact λT' e=>by cases e;exact⟨[],(append_nil _).symm,⟨nofun,λh=>by rwa[append_nil],λh=>by rwa[append_nil],λs' e=>by cases e;rwa[append_nil],nofun,λA r B e=>by cases A <;> cases e⟩⟩
 |full s T h e=>exact λT' e=>nomatch e
 |step s T r h e w ih=>
  intro T' e';obtain⟨E,rfl,W⟩:=ih T' e';have ee:T++[(s,p)]++E=T++((s,p)::E):=by rw[append_assoc];rfl
  obtain⟨h1,h2,h3,h4,h5,h6⟩:=W;rw[ee] at h2 h3 h4 h5;refine⟨(s,p)::E,ee,⟨λr hr=>?_,λhn=>h2 ?_,λhl=>h3 (by rw[length_append,length_singleton];omega),λs' e=>?_,λr hr s' hs=>?_,λA r B e=>?_⟩⟩
  ·rcases mem_cons.mp hr with rfl|hr
   ·rfl
   ·exact h1 r hr
  ·rw[e7];exact nodup_append.mpr ⟨hn,nodup_cons.mpr ⟨nofun,List.nodup_nil⟩,λa ha b hb=>by
    have hb':b=s:=mem_singleton.mp (show b∈[s] from hb);exact λy=>h (by rw[←hb',←y];exact ha)⟩
  ·cases e;rw[e7];exact mem_append_right _ (mem_cons_self ..)
  ·rcases mem_cons.mp hr with rfl|hr
   ·exact h4 s' hs
   ·exact h5 r hr s' hs
  ·cases A with
   |nil=>cases e;exact .inl ⟨rfl,rfl⟩
   |cons a A=>
    have e1:(s,p)=a:=(List.cons.inj e).1;have e2:E=A++r::B:=(List.cons.inj e).2;subst e1;rcases h6 A r B e2 with⟨rfl,y⟩|⟨r',hr',y⟩
    ·exact .inr ⟨(s,p),mem_cons_self ..,y⟩
    ·exact .inr ⟨r',mem_cons_of_mem _ hr',y⟩
inductive Walks(nxt:α->Option α)(most:Nat)(p:Int):List α->List (α×Int)->Option (List (α×Int))->Prop
 |nil (T):Walks nxt most p [] T (some T)
 |over (c cs T) (w:Walk nxt most p (some c) T none):Walks nxt most p (c::cs) T none
 |cons (c cs T T1 r) (w:Walk nxt most p (some c) T (some T1)) (ws:Walks nxt most p cs T1 r):Walks nxt most p (c::cs) T r
theorem pz{p:Int}:∀(a:List α){b:List α}{T:List (α×Int)}{r:Option (List (α×Int))},Walks nxt most p (a++b) T r->(r=none/\Walks nxt most p a T none)\/∃T1,Walks nxt most p a T (some T1)/\Walks nxt most p b T1 r
 |[],b,T,r,w=>.inr ⟨T,.nil T,w⟩
 |c::a,b,T,r,w=>by
  cases w with
  |over _ _ _ w=>exact .inl ⟨rfl,.over c a T w⟩
  |cons _ _ _ T1 _ w ws=>
   rcases pz a ws with⟨e,z⟩|⟨T2,z1,z2⟩
   ·exact .inl ⟨e,.cons c a T T1 none w z⟩
   ·exact .inr ⟨T2,.cons c a T T1 _ w z1,z2⟩
structure EZ(nxt:α->Option α)(most:Nat)(p:Int)(cs:List α)(T E:List (α×Int)):Prop where
 price:∀r∈E,r.2=p
 nd:(aR T).Nodup->(aR (T++E)).Nodup
 len:T.length<=most->(T++E).length<=most
 here:∀s∈cs,s∈aR (T++E)
 on:∀r∈E,∀s',nxt r.1=some s'->s'∈aR (T++E)
 due:∀A r B,E=A++r::B->r.1∈cs\/∃r'∈A,nxt r'.1=some r.1
theorem kD{T E:List (α×Int)}{s:α}(h:s∈aR T):s∈aR (T++E):=by rw[e7];exact mem_append_left _ h
theorem yh{β:Type}:∀{X Y A B:List β}{r:β},X++Y=A++r::B->(∃B',X=A++r::B')\/∃A',A=X++A'/\Y=A'++r::B
 |[],Y,A,B,r,e=>.inr ⟨A,rfl,e⟩
 |x::X,Y,[],B,r,e=>by have:=(List.cons.inj e).1;subst this;exact .inl ⟨X,rfl⟩
 |x::X,Y,a::A,B,r,e=>by
  have h1:=(List.cons.inj e).1;subst h1;rcases yh (List.cons.inj e).2 with⟨B',h⟩|⟨A',h,h'⟩
  ·exact .inl ⟨B',by rw[h];rfl⟩
  ·exact .inr ⟨A',by rw[h];rfl,h'⟩
theorem iD{p:Int}{cs:List α}{T:List (α×Int)}{r:Option (List (α×Int))}(w:Walks nxt most p cs T r):∀T',r=some T'->∃E,T'=T++E/\EZ nxt most p cs T E:=by
 induction w with
 |nil T=>exact λT' e=>by cases e;exact⟨[],(append_nil _).symm,⟨nofun,λh=>by rwa[append_nil],λh=>by rwa[append_nil],nofun,nofun,λA r B e=>by cases A <;> cases e⟩⟩
 |over c cs T w=>exact λT' e=>nomatch e
 |cons c cs T T1 r w ws ih=>
  intro T' e';obtain⟨E2,rfl,W2⟩:=ih T' e';obtain⟨E1,rfl,W1⟩:=mw w T1 rfl;have ee:T++E1++E2=T++(E1++E2):=append_assoc ..;refine⟨E1++E2,ee,⟨λr hr=>(mem_append.mp hr).elim (W1.price r) (W2.price r),λh=>?_,λh=>?_,λs hs=>?_,λr hr s' h=>?_,λA r B e=>?_⟩⟩
  ·rw[←ee];exact W2.nd (W1.nd h)
  ·rw[←ee];exact W2.len (W1.len h)
  ·rw[←ee];rcases mem_cons.mp hs with rfl|hs
   ·exact kD (W1.here _ rfl)
   ·exact W2.here s hs
  ·rw[←ee];rcases mem_append.mp hr with hr|hr
   ·exact kD (W1.on r hr s' h)
   ·exact W2.on r hr s' h
  ·rcases yh e with⟨B',h⟩|⟨A',rfl,h⟩
   ·rcases W1.due A r B' h with⟨_,y⟩|y
    ·exact .inl (by cases y;exact mem_cons_self ..)
    ·exact .inr y
   ·rcases W2.due A' r B h with y|⟨r',h1,h2⟩
    ·exact .inl (mem_cons_of_mem _ y)
    ·exact .inr ⟨r',mem_append_right _ h1,h2⟩
inductive jb(nxt:α->Option α)(com:α->List α)(most many:Nat):Nat->Nat->List (α×Int)->Option (List (α×Int))->Prop
 |done (p c T) (h:many<p):jb nxt com most many p c T (some T)
 |over (p c T) (h:p<=many) (w:Walks nxt most (p:Nat) ((aR (T.drop c)).flatMap com) T none):jb nxt com most many p c T none
 |next (p c T T1 r) (h:p<=many) (w:Walks nxt most (p:Nat) ((aR (T.drop c)).flatMap com) T (some T1)) (k:jb nxt com most many (p+1) T.length T1 r):jb nxt com most many p c T r
inductive Ch(nxt:α->Option α)(e:Option α):Option α->List α->Prop
 |nil:Ch nxt e e []
 |cons (s cs) (h:Ch nxt e (nxt s) cs):Ch nxt e (some s) (s::cs)
def atP(p:Int)(cs:List α):List (α×Int):=cs.map λs=>(s,p)
theorem jz(p:Int)(cs:List α):(atP p cs).length=cs.length:=length_map ..
theorem kF(p:Int)(cs:List α):aR (atP p cs)=cs:=by unfold aR atP;rw[map_map];exact List.map_id' cs
theorem xp{p:Int}{e os:Option α}{cs:List α}(c:Ch nxt e os cs):∀T,(∀s,e=some s->s∈aR T)->cs.Nodup->(∀c∈cs,c∉aR T)->T.length<=most->Walk nxt most p os T (if T.length+cs.length<=most then some (T++atP p cs) else none):=by
 induction c with
 |nil=>
  intro T he _ _ hl;rw[if_pos (by simpa using hl),show atP p ([]:List α)=[] from rfl,append_nil]
  cases e with
  |none=>exact .stop T
  |some s=>exact .seen s T (he s rfl)
 |cons s cs h ih=>
  intro T he hn hf hl;have hs:=hf s (mem_cons_self ..);obtain⟨n1,n2⟩:=nodup_cons.mp hn;by_cases hm:T.length=most
  ·rw[if_neg (by rw[length_cons];omega)]
   exact .full s T hs hm
  ·refine .step s T _ hs (by omega) ?_
   have i:=ih (T++[(s,p)]) (λs' e'=>by rw[e7];exact mem_append_left _ (he s' e')) n2 (λc hc h'=>by
    rw[e7] at h';rcases mem_append.mp h' with h'|h'
    ·exact hf c (mem_cons_of_mem _ hc) h'
    ·have:c=s:=mem_singleton.mp (show c∈[s] from h');exact n1 (this▸hc)) (by rw[length_append,length_singleton];omega)
   rw[length_append,length_singleton,append_assoc] at i;rw[length_cons,show T.length+(cs.length+1)=T.length+1+cs.length by omega]
   exact i
theorem sD{p:Int}:∀(Ls:List (α×List α))(T:List (α×Int)),(∀x∈Ls,∃e,(∀s,e=some s->s∈aR T)/\Ch nxt e (some x.1) x.2)->(Ls.flatMap (·.2)).Nodup->(∀c∈Ls.flatMap (·.2),c∉aR T)->T.length<=most->
  Walks nxt most p (Ls.map (·.1)) T (if T.length+(Ls.flatMap (·.2)).length<=most then some (T++atP p (Ls.flatMap (·.2))) else none)
 |[],T,_,_,_,hl=>by
  rw[if_pos (by simpa using hl)]
  show Walks nxt most p [] T (some (T++[]));rw[append_nil];exact .nil T
 |x::Ls,T,hx,hn,hf,hl=>by
  obtain⟨e,he,c⟩:=hx x (mem_cons_self ..);rw[flatMap_cons] at hn hf ⊢;obtain⟨n1,n2,n3⟩:=nodup_append.mp hn;have w:=xp (most:=most) (p:=p) c T he n1 (λc hc=>hf c (mem_append_left _ hc)) hl;by_cases hm:T.length+x.2.length<=most
  ·rw[if_pos hm] at w;have i:=sD (p:=p) Ls (T++atP p x.2) (λy hy=>by
    obtain⟨e',h1,h2⟩:=hx y (mem_cons_of_mem _ hy);exact⟨e',λs hs=>by rw[e7];exact mem_append_left _ (h1 s hs),h2⟩) n2 (λc hc h'=>by
    rw[e7,kF] at h';rcases mem_append.mp h' with h'|h'
    ·exact hf c (mem_append_right _ hc) h'
    ·exact n3 c h' c hc rfl) (by rw[length_append,jz];exact hm)
   rw[length_append,jz,append_assoc] at i;rw[length_append,←Nat.add_assoc,show atP p (x.2++Ls.flatMap (·.2))=atP p x.2++atP p (Ls.flatMap (·.2)) from map_append ..];exact .cons x.1 _ T _ _ w i
  ·rw[if_neg hm] at w;rw[if_neg (by rw[length_append];omega)]
   exact .over x.1 _ T w
theorem Aq{b:α}{ms:List α}{L:α->List (α×List α)}(c:Ch nxt none (some b) ms)(hL:∀m∈ms,com m=(L m).map (·.1)/\∀x∈L m,Ch nxt (some m) (some x.1) x.2)(hn:(ms++ms.flatMap λm=>(L m).flatMap (·.2)).Nodup)(hl:ms.length<=most):
  Walk nxt most 0 (some b) [] (some (atP 0 ms))/\jb nxt com most 1 1 0 (atP 0 ms) (if ms.length+(ms.flatMap λm=>(L m).flatMap (·.2)).length<=most then some (atP 0 ms++atP 1 (ms.flatMap λm=>(L m).flatMap (·.2))) else none):=by
 obtain⟨n1,n2,n3⟩:=nodup_append.mp hn;have w:=xp (most:=most) (p:=0) c [] nofun n1 (λ_ _=>nofun) (zero_le _);rw[if_pos (by simpa using hl),nil_append] at w
 refine⟨w,?_⟩;have e1:(ms.flatMap L).flatMap (·.2)=ms.flatMap λm=>(L m).flatMap (·.2):=List.flatMap_assoc ..;have e2:(ms.flatMap L).map (·.1)=ms.flatMap com:=by
  rw[List.map_flatMap];have:∀l:List α,(∀m∈l,m∈ms)->(l.flatMap λa=>(L a).map (·.1))=l.flatMap com:=λl=>by
   induction l with
   |nil=>exact λ_=>rfl
   |cons a l ih=>
    intro h;rw[flatMap_cons,flatMap_cons,ih λm hm=>h m (mem_cons_of_mem _ hm),(hL a (h a (mem_cons_self ..))).1]
  exact this ms λ_ h=>h
 have ws:=sD (nxt:=nxt) (most:=most) (p:=1) (ms.flatMap L) (atP 0 ms) (λx hx=>by
  obtain⟨m,hm,hx⟩:=List.mem_flatMap.mp hx;exact⟨some m,λs e=>by cases e;rw[kF];exact hm,(hL m hm).2 x hx⟩) (by rw[e1];exact n2) (λc hc h'=>by
  rw[kF] at h';rw[e1] at hc;exact n3 c h' c hc rfl) (by rw[jz];exact hl)
 rw[e1,e2,jz] at ws;have k0:(aR ((atP 0 ms).drop 0)).flatMap com=ms.flatMap com:=by rw[List.drop_zero,kF]
 by_cases hm:ms.length+(ms.flatMap λm=>(L m).flatMap (·.2)).length<=most
 ·rw[if_pos hm] at ws ⊢;exact .next 1 0 _ _ _ (le_refl _) (by rw[k0];exact ws) (.done _ _ _ (by decide))
 ·rw[if_neg hm] at ws ⊢;exact .over 1 0 _ (le_refl _) (by rw[k0];exact ws)
end
end Bell
namespace Bell
open PySem L3
theorem DW(n:Nat)(i:Int):okK n (.int i)=true:=by cases n <;> rfl
theorem qE{c:ME}{body:MC}{n:Nat}{ρ ρ2:av}{o:Option Out}(h:c ρ=okB true)(hb:body ρ=some (.next ρ2))(h2:bD c body n ρ2=o):bD c body (n+1) ρ=o:=by
 unfold bD;rw[h];show(if true=true then(match body ρ with|some (.next ρ2)=>bD c body n ρ2|some (.cont ρ2)=>bD c body n ρ2|some (.brk ρ2)=>some (.next ρ2)|o=>o) else some (.next ρ))=o
 rw[if_pos rfl,hb];exact h2
theorem qF{c:ME}{body:MC}{n:Nat}{ρ:av}(h:c ρ=okB false):bD c body (n+1) ρ=some (.next ρ):=by
 unfold bD;rw[h];rfl
theorem CS{c:ME}{body:MC}{n:Nat}{ρ:av}{x:D}(h:c ρ=okB true)(hb:body ρ=some (.exc x)):bD c body (n+1) ρ=some (.exc x):=by
 unfold bD;rw[h];show(if true=true then(match body ρ with|some (.next ρ2)=>bD c body n ρ2|some (.cont ρ2)=>bD c body n ρ2|some (.brk ρ2)=>some (.next ρ2)|o=>o) else some (.next ρ))=_
 rw[if_pos rfl,hb]
def vD:Option R->D
 |some (.ok (.sh d))=>d
 |_=>.non
def vL:Option R->List D
 |some (.ok (.own (.lst l)))=>l
 |_=>[]
def K8:D->Option D
 |.non=>none
 |d=>some d
def cH(pr s:D):Option D:=K8 (vD (ck [pr,s]))
def comL(pr s:D):List D:=vL (d9 [pr,s])
def CJ(s b:D):D:=match s with
 |.tup [.tup fs,c]=>.tup [.tup (fs++[.tup [b,.int 0,.int 0,.tup []]]),c]
 |_=>.non
def comD(pr s:D):List D:=(comL pr s).map (CJ s)
structure FC(pr:D)(G:Nat->D->Prop):Prop where
 ok:∀k s,G k s->okT s=true
 nn:∀k s,G k s->kK s=okB true
 bh:∀k s,G k s->(cH pr s=none/\ck [pr,s]=okD .non/\True)\/∃s',cH pr s=some s'/\ck [pr,s]=okD s'/\True/\G k s'
 cl:∀k s,G k s->k<=0->d9 [pr,s]=okL (comL pr s)/\True/\True
 cm:∀k s b,G k s->k<=0->b∈comL pr s->ib [pr,s,b]=okD (CJ s b)/\True/\G (k+1) (CJ s b)
def encT(T:List (D×Int)):Td:=T.map λr=>(r.1,.int r.2)
theorem kI(T:List (D×Int)):(encT T).length=T.length:=length_map ..
theorem Cc(T U:List (D×Int)):encT (T++U)=encT T++encT U:=map_append
theorem zN(T:List (D×Int)):(encT T).map (·.1)=aR T:=by unfold encT aR;rw[map_map];rfl
theorem rZ{T:List (D×Int)}{s:D}(h:s∉aR T):∀p∈encT T,p.1≠s:=λp hp e=>by
 obtain⟨r,hr,rfl⟩:=mem_map.mp hp;exact h (mem_map.mpr ⟨r,hr,e⟩)
theorem Cb{T:List (D×Int)}{s:D}(h:s∈aR T):∃q,(s,q)∈T/\fX (encT T) s=some (.int q):=by
 induction T with
 |nil=>cases h
 |cons r T ih=>
  by_cases e:r.1=s
  ·refine⟨r.2,by rw[←e];exact mem_cons_self ..,?_⟩
   show((List.find? _ ((r.1,D.int r.2)::encT T)).map (·.2))=_;rw[List.find?_cons_of_pos (by simpa using e)];rfl
  ·have h':s∈aR T:=(mem_cons.mp h).resolve_left λy=>e y.symm;obtain⟨q,h1,h2⟩:=ih h';refine⟨q,mem_cons_of_mem _ h1,?_⟩;show((List.find? _ ((r.1,D.int r.2)::encT T)).map (·.2))=_;rw[List.find?_cons_of_neg (by simpa using e)];exact h2
theorem B5{g:ME}{ρ:av}{s:S}(h:g ρ=some (.ok s)):vh g ρ=some (.ok s):=Jg h
theorem uY{i:Nat}{F:F1}{gs hs:List ME}{ρ:av}{o o':O}{ds es:List D}{d:D}(h:ρ[i]?=some (some (.own o)))(h1:aI gs ρ=some ds)(h2:aI hs ρ=some es)(h3:F o.core ds es=some (.ok d o')):gZ i F gs hs ρ=some (.next (ρ.set i (some (.own (o.put o'))))):=by
 unfold gZ;rw[h];dsimp only;rw[h1,h2];dsimp only[Option.bind_some];rw[h3];rfl
theorem EL{i:Nat}{F:F1}{gs hs:List ME}{ρ:av}{o:O}{ds es:List D}{x:D}(h:ρ[i]?=some (some (.own o)))(h1:aI gs ρ=some ds)(h2:aI hs ρ=some es)(h3:F o.core ds es=some (.exc x)):gZ i F gs hs ρ=some (.exc x):=by
 unfold gZ;rw[h];dsimp only;rw[h1,h2];dsimp only[Option.bind_some];rw[h3];rfl
theorem xy{x y:MC}{ρ:av}{e:D}(h:x ρ=some (.exc e)):aH x y ρ=some (.exc e):=by unfold aH;rw[h]
theorem e8{bd:MB}{body:MC}{d:D}{ds:List D}{ρ ρ1 ρ2:av}{o:Option Out}(h:bd d ρ=some ρ1)(h1:body ρ1=some (.next ρ2))(h2:e9 bd body ds ρ2=o):e9 bd body (d::ds) ρ=o:=by
 unfold e9;rw[h];dsimp only;rw[h1];exact h2
theorem wM{bd:MB}{body:MC}{d:D}{ds:List D}{ρ ρ1:av}{x:D}(h:bd d ρ=some ρ1)(h1:body ρ1=some (.exc x)):e9 bd body (d::ds) ρ=some (.exc x):=by
 unfold e9;rw[h];dsimp only;rw[h1]
theorem ja{β:Type}{T:List β}{P:β->Prop}:∀E,T=T++E->∀r∈E,P r:=λE e r hr=>by
 have:=List.append_cancel_left (as:=T) (bs:=[]) (cs:=E) (by rw[append_nil];exact e)
 rw[←this] at hr;cases hr
def vv(most:Nat):D:=wR "TooMany" (Str.ofString "most") (most:Nat)
def Gh:Option D->D
 |none=>.non
 |some s=>s
def lF(pr d:D)(p:Int)(most a:Nat)(T:List (D×Int)):av:=[some (.sh pr),some (.sh d),some (.sh (.int p)),some (.sh (.int (most:Nat))),some (.own (.par a (.tab (encT T))))]
section
variable{pr:D}{G:Nat->D->Prop}{most:Nat}
theorem vo(S:FC pr G)(hm:most<=400)(a:Nat){p:Int}{os:Option D}{T:List (D×Int)}{r:Option (List (D×Int))}(w:Walk (cH pr) most p os T r):∀(n k:Nat),(∀s,os=some s->G k s)->T.length<=most->most<T.length+n->
  (∀T',r=some T'->(∃d,bD (gQ (jw kK (eVar 1)) (gP true 4 (eVar 1))) cR n (lF pr (Gh os) p most a T)=some (.next (lF pr d p most a T')))/\∀E,T'=T++E->∀r∈E,G k r.1)/\
  (r=none->bD (gQ (jw kK (eVar 1)) (gP true 4 (eVar 1))) cR n (lF pr (Gh os) p most a T)=some (.exc (vv most))):=by
 induction w with
 |stop T=>
  intro n k _ hl hn;obtain⟨m,rfl⟩:∃m,n=m+1:=⟨n - 1,by omega⟩
  exact⟨λT' e=>by cases e;exact⟨⟨_,qF (yi (jC rfl rfl))⟩,ja⟩,nofun⟩
 |seen s T h=>
  intro n k hg hl hn;obtain⟨m,rfl⟩:∃m,n=m+1:=⟨n - 1,by omega⟩
  have g:=hg s rfl;refine⟨λT' e=>?_,nofun⟩;cases e;refine⟨⟨s,qF (kP (jC (s:=.sh s) rfl (S.nn k s g)) ?_)⟩,ja⟩;obtain⟨q,_,hq⟩:=Cb h;rw[wI (o:=.par a (.tab (encT T))) (k:=s) rfl rfl rfl (S.ok k s g),hq];rfl
 |full s T h e=>
  intro n k hg hl hn;obtain⟨m,rfl⟩:∃m,n=m+1:=⟨n - 1,by omega⟩
  have g:=hg s rfl;refine⟨nofun,λ_=>CS (kP (jC (s:=.sh s) rfl (S.nn k s g)) ?_) ?_⟩
  ·rw[wI (o:=.par a (.tab (encT T))) (k:=s) rfl rfl rfl (S.ok k s g),getD_none (rZ h)];rfl
  ·refine xy (jX (ah (wB (o:=.par a (.tab (encT T))) rfl rfl) rfl ?_) rfl);rw[kI,e];exact C8 rfl
 |step s T r h e w ih=>
  intro n k hg hl hn;obtain⟨m,rfl⟩:∃m,n=m+1:=⟨n - 1,by omega⟩
  have g:=hg s rfl;have o1:(gQ (jw kK (eVar 1)) (gP true 4 (eVar 1))) (lF pr s p most a T)=okB true:=by
   refine kP (jC (s:=.sh s) rfl (S.nn k s g)) ?_;rw[wI (o:=.par a (.tab (encT T))) (k:=s) rfl rfl rfl (S.ok k s g),getD_none (rZ h)];rfl
  have hb:ck [pr,s]=okD (Gh (cH pr s))/\∀s',cH pr s=some s'->G k s':=by
   rcases S.bh k s g with⟨e1,e2,_⟩|⟨s',e1,e2,_,e4⟩
   ·rw[e1];exact⟨e2,nofun⟩
   ·rw[e1];exact⟨e2,λs' y=>by cases y;exact e4⟩
  have o2:cR (lF pr s p most a T)=some (.next (lF pr (Gh (cH pr s)) p most a (T++[(s,p)]))):=by
   refine ag (gL (ah (wB (o:=.par a (.tab (encT T))) rfl rfl) rfl (Eo ?_)) rfl) (ag (FY (o:=.par a (.tab (encT T))) rfl rfl rfl rfl (S.ok k s g) ?_) ?_)
   ·rw[kI];omega
   ·rw[kI];exact lt_of_lt_of_le (show T.length<1000 by omega) (by decide)
   ·rw[Ax _ (rZ h)];have q:∀ρ:av,ρ[0]?=some (some (.sh pr))->ρ[1]?=some (some (.sh s))->vh (au ck [(eVar 0),(eVar 1)]) ρ=okD (Gh (cH pr s)):=λρ h0 h1=>B5 (bg (bp h0) (bp h1) hb.1);have z:=aL (i:=1) (q ([some (.sh pr),some (.sh s),some (.sh (.int p)),some (.sh (.int (most:Nat))),some (.own (.par a (.tab (encT T++[(s,.int p)]))))]) rfl rfl);show aX 1 _ [some (.sh pr),some (.sh s),some (.sh (.int p)),some (.sh (.int (most:Nat))),some (.own (.par a (.tab (encT T++[(s,.int p)]))))]=_;rw[z];unfold lF;rw[Cc];rfl
  obtain⟨i1,i2⟩:=ih m k hb.2 (by rw[length_append,length_singleton];omega) (by rw[length_append,length_singleton];omega)
  refine⟨λT' e'=>?_,λe'=>qE o1 o2 (i2 e')⟩;obtain⟨⟨d,z⟩,zg⟩:=i1 T' e';obtain⟨E1,e1,_⟩:=mw w T' e';refine⟨⟨d,qE o1 o2 z⟩,λE eE r hr=>?_⟩;have ee:E=(s,p)::E1:=by
   rw[e1,append_assoc] at eE;exact(List.append_cancel_left eE).symm
  rw[ee] at hr;rcases mem_cons.mp hr with rfl|hr
  ·exact g
  ·exact zg E1 e1 r hr
theorem jO(S:FC pr G)(hm:most<=400){p:Int}{s:D}{T T':List (D×Int)}(w:Walk (cH pr) most p (some s) T (some T')){k:Nat}(g:G k s)(hl:T.length<=most):
  ek (.tab (encT T)) [pr,s,.int p,.int (most:Nat)] []=some (.ok .non (.tab (encT T')))/\∀E,T'=T++E->∀r∈E,G k r.1:=by
 refine⟨BW rfl rfl λa=>?_,((vo S hm 0 w 5000 k (λs' e=>by cases e;exact g) hl (by omega)).1 T' rfl).2⟩
 obtain⟨d,z⟩:=((vo S hm a w 5000 k (λs' e=>by cases e;exact g) hl (by omega)).1 T' rfl).1
 show zc 4 a (bD (gQ (jw kK (eVar 1)) (gP true 4 (eVar 1))) cR 5000 (lF pr s p most a T))=_;rw[show lF pr s p most a T=lF pr (Gh (some s)) p most a T from rfl,z];show(if a=a then some (D.non,O.tab (encT T')) else none).map (λp=>RX.ok p.1 p.2)=_;rw[if_pos rfl];rfl
theorem pk(S:FC pr G)(hm:most<=400){p:Int}{s:D}{T:List (D×Int)}(w:Walk (cH pr) most p (some s) T none){k:Nat}(g:G k s)(hl:T.length<=most):
  ek (.tab (encT T)) [pr,s,.int p,.int (most:Nat)] []=some (.exc (vv most)):=by
 refine BW rfl rfl λa=>?_;have z:=(vo S hm a w 5000 k (λs' e=>by cases e;exact g) hl (by omega)).2 rfl
 show zc 4 a (bD (gQ (jw kK (eVar 1)) (gP true 4 (eVar 1))) cR 5000 (lF pr s p most a T))=_;rw[show lF pr s p most a T=lF pr (Gh (some s)) p most a T from rfl,z];rfl
end
def rowD(r:D×Int):D:=.tup [r.1,.int r.2]
def dO(pr:D)(many most:Nat)(T:List (D×Int))(c4 c5 c6 c7 c8:Option S):av:=[some (.sh pr),some (.sh (.int (many:Nat))),some (.sh (.int (most:Nat))),some (.own (.tab (encT T))),c4,c5,c6,c7,c8]
theorem GP{np n:Nat}{g:MC}{ds:List D}{x:D}(hl:ds.length=np)(h:g (aN n ds)=some (.exc x)):gv np n g ds=some (.exc x):=by unfold gv;rw[if_pos hl,h];rfl
theorem nG{e:ME}{ρ:av}{s:S}{l:List D}(h:e ρ=some (.ok s))(hl:jr s.val=some l):lA e ρ=some (.ok l):=by unfold lA;rw[h];dsimp only;rw[hl];rfl
theorem GW{ds:List D}{x:Nat}(h:x<=ds.length):nV (.lst ds) (some (x:Nat)) none=okL (ds.drop x):=by
 have e:iG ds.length 0 (some (x:Int))=x:=by
  show(if(x:Int)<0 then((x:Int)+(ds.length:Int)).toNat else min (x:Int).toNat ds.length)=x;rw[if_neg (by omega)];omega
 show okL ((ds.drop (iG ds.length 0 (some (x:Int)))).take (ds.length - iG ds.length 0 (some (x:Int))))=_;rw[e,List.take_of_length_le (by rw[length_drop];omega)]
theorem Er{a e1:ME}{ρ:av}{s:S}{ds:List D}{x:Nat}(h:a ρ=some (.ok s))(hv:s.val=.lst ds)(hx:e1 ρ=okI x)(hl:x<=ds.length):ic a (some e1) none ρ=okL (ds.drop x):=by
 unfold ic;rw[h];dsimp only[b9];rw[hv];show(b9 (e1 ρ) λd=>match d with|.int i=>nV (.lst ds) (some i) none|_=>none)=_
 rw[hx];exact GW hl
theorem t5{p m:Nat}(h:p<=m):rng (p:Nat) ((m:Int)+1)=D.int (p:Nat)::rng ((p+1:Nat):Int) ((m:Int)+1):=by
 unfold rng;have e1:((m:Int)+1 - (p:Int)).toNat=(m - p)+1:=by omega
 have e2:((m:Int)+1 - ((p+1:Nat):Int)).toNat=m - p:=by omega
 rw[e1,e2,List.range_succ_eq_map,map_cons,map_map];have e3:D.int ((p:Int)+((0:Nat):Int))=D.int (p:Nat):=by rw[Int.natCast_zero,Int.add_zero]
 rw[e3];refine congrArg _ (map_congr_left λk _=>?_);show D.int ((p:Int)+((k+1:Nat):Int))=D.int (((p+1:Nat):Int)+(k:Int));congr 1;omega
theorem Df{p m:Nat}(h:m<p):rng (p:Nat) ((m:Int)+1)=[]:=by
 unfold rng;have e1:((m:Int)+1 - (p:Int)).toNat=0:=by omega
 rw[e1];rfl
theorem su{β:Type}{T E1 E2 T':List β}{P:β->Prop}(e:T'=T++E1++E2)(h1:∀r∈E1,P r)(h2:∀r∈E2,P r):∀E,T'=T++E->∀r∈E,P r:=λE eE r hr=>by
 rw[e,append_assoc] at eE;rw[←List.append_cancel_left eE] at hr;exact(mem_append.mp hr).elim (h1 r) (h2 r)
theorem mY{α:Type}{nxt:α->Option α}{com:α->List α}{most many p c:Nat}{T:List (α×Int)}{r:Option (List (α×Int))}(k:jb nxt com most many p c T r):∀T',r=some T'->∃E,T'=T++E:=by
 induction k with
 |done p c T h=>exact λT' e=>by cases e;exact⟨[],(append_nil _).symm⟩
 |over p c T h w=>exact λT' e=>nomatch e
 |next p c T T1 r h w k ih=>
  intro T' e;obtain⟨E1,e1,_⟩:=iD w T1 rfl;obtain⟨E2,e2⟩:=ih T' e;exact⟨E1++E2,by rw[e2,e1,append_assoc]⟩
section
variable{pr:D}{G:Nat->D->Prop}{most many:Nat}
theorem rT(hS:FC pr G)(hm:most<=400){p:Int}{k:Nat}{s:D}{c4 c6:Option S}:∀(l:List D)(T:List (D×Int))(r:Option (List (D×Int))),Walks (cH pr) most p (l.map (CJ s)) T r->(∀b∈l,ib [pr,s,b]=okD (CJ s b)/\G k (CJ s b))->T.length<=most->∀c8:Option S,
  (∀T',r=some T'->(∃c8',e9 (cy 8) lJ l (dO pr many most T c4 (some (.sh (.int p))) c6 (some (.sh s)) c8)=some (.next (dO pr many most T' c4 (some (.sh (.int p))) c6 (some (.sh s)) c8')))/\∀E,T'=T++E->∀r∈E,G k r.1)/\
  (r=none->e9 (cy 8) lJ l (dO pr many most T c4 (some (.sh (.int p))) c6 (some (.sh s)) c8)=some (.exc (vv most)))
 |[],T,r,w,_,_,c8=>by
  cases w;exact⟨λT' e=>by cases e;exact⟨⟨c8,rfl⟩,ja⟩,nofun⟩
 |b::l,T,r,w,hb,hl,c8=>by
  obtain⟨hc,g⟩:=hb b (mem_cons_self ..);have q:∀ρ:av,ρ[0]?=some (some (.sh pr))->ρ[7]?=some (some (.sh s))->ρ[8]?=some (some (.sh b))->vh (au ib [(eVar 0),(eVar 7),(eVar 8)]) ρ=okD (CJ s b):=λρ h0 h1 h2=>B5 (dW (bp h0) (bp h1) (bp h2) hc);have ar:aI [(eVar 0),(vh (au ib [(eVar 0),(eVar 7),(eVar 8)])),(eVar 5),(eVar 2)] (dO pr many most T c4 (some (.sh (.int p))) c6 (some (.sh s)) (some (.sh b)))=some [pr,CJ s b,.int p,.int (most:Nat)]:=by
   unfold aI aI aI aI aI;rw[q _ rfl rfl rfl];rfl
  cases w with
  |over _ _ _ w=>exact⟨nofun,λ_=>wM (ρ1:=dO pr many most T c4 (some (.sh (.int p))) c6 (some (.sh s)) (some (.sh b))) rfl (EL (o:=.tab (encT T)) rfl ar rfl (pk hS hm w g hl))⟩
  |cons _ _ _ T1 _ w ws=>
   obtain⟨z1,zg⟩:=jO hS hm w g hl;obtain⟨E,rfl,W⟩:=mw w T1 rfl;obtain⟨i1,i2⟩:=rT hS hm l _ r ws (λb' h=>hb b' (mem_cons_of_mem _ h)) (W.len hl) (some (.sh b));have o:=uY (o:=.tab (encT T)) (ρ:=dO pr many most T c4 (some (.sh (.int p))) c6 (some (.sh s)) (some (.sh b))) (i:=3) rfl ar (hs:=[]) rfl z1;refine⟨λT' e=>?_,λe=>e8 (ρ1:=dO pr many most T c4 (some (.sh (.int p))) c6 (some (.sh s)) (some (.sh b))) rfl o (i2 e)⟩;obtain⟨⟨c8',y⟩,yg⟩:=i1 T' e;refine⟨⟨c8',e8 (ρ1:=dO pr many most T c4 (some (.sh (.int p))) c6 (some (.sh s)) (some (.sh b))) rfl o y⟩,?_⟩;obtain⟨E2,e2,_⟩:=iD ws T' e;exact su e2 (zg E rfl) (yg E2 e2)
theorem rg(hS:FC pr G)(hm:most<=400){p:Int}{k:Nat}(hk:k<=0){c4 c6:Option S}:∀(L:List D)(T:List (D×Int))(r:Option (List (D×Int))),Walks (cH pr) most p (L.flatMap (comD pr)) T r->(∀s∈L,G k s)->T.length<=most->∀c7 c8:Option S,
  (∀T',r=some T'->(∃c7' c8',e9 (cy 7) jy L (dO pr many most T c4 (some (.sh (.int p))) c6 c7 c8)=some (.next (dO pr many most T' c4 (some (.sh (.int p))) c6 c7' c8')))/\∀E,T'=T++E->∀r∈E,G (k+1) r.1)/\
  (r=none->e9 (cy 7) jy L (dO pr many most T c4 (some (.sh (.int p))) c6 c7 c8)=some (.exc (vv most)))
 |[],T,r,w,_,_,c7,c8=>by
  cases w;exact⟨λT' e=>by cases e;exact⟨⟨c7,c8,rfl⟩,ja⟩,nofun⟩
 |s::L,T,r,w,hg,hl,c7,c8=>by
  have g:=hg s (mem_cons_self ..);obtain⟨cl1,_,_⟩:=hS.cl k s g hk;have hb:∀b∈comL pr s,ib [pr,s,b]=okD (CJ s b)/\G (k+1) (CJ s b):=λb hb=>⟨(hS.cm k s b g hk hb).1,(hS.cm k s b g hk hb).2.2⟩;have it:lA (vh (au d9 [(eVar 0),(eVar 7)])) (dO pr many most T c4 (some (.sh (.int p))) c6 (some (.sh s)) c8)=some (.ok (comL pr s)):=nG (B5 (bg rfl rfl cl1)) rfl;rw[flatMap_cons] at w;rcases pz (comD pr s) w with⟨e,w1⟩|⟨T1,w1,w2⟩
  ·subst e;have i:=(rT (many:=many) hS hm (c4:=c4) (c6:=c6) (comL pr s) T none w1 hb hl c8).2 rfl;exact⟨nofun,λ_=>wM (ρ1:=dO pr many most T c4 (some (.sh (.int p))) c6 (some (.sh s)) c8) rfl (gM it i)⟩
  ·obtain⟨⟨c8',i⟩,ig⟩:=(rT (many:=many) hS hm (c4:=c4) (c6:=c6) (comL pr s) T _ w1 hb hl c8).1 T1 rfl;obtain⟨E,rfl,W⟩:=iD w1 T1 rfl;obtain⟨i1,i2⟩:=rg hS hm hk (c4:=c4) (c6:=c6) L _ r w2 (λs' h=>hg s' (mem_cons_of_mem _ h)) (W.len hl) (some (.sh s)) c8';refine⟨λT' e=>?_,λe=>e8 (ρ1:=dO pr many most T c4 (some (.sh (.int p))) c6 (some (.sh s)) c8) rfl (gM it i) (i2 e)⟩;obtain⟨⟨c7',c8'',y⟩,yg⟩:=i1 T' e;refine⟨⟨c7',c8'',e8 (ρ1:=dO pr many most T c4 (some (.sh (.int p))) c6 (some (.sh s)) c8) rfl (gM it i) y⟩,?_⟩;obtain⟨E2,e2,_⟩:=iD w2 T' e;exact su e2 (ig E rfl) (yg E2 e2)
theorem Ap(hS:FC pr G)(hm:most<=400)(h20:many<=1){p c:Nat}{T:List (D×Int)}{r:Option (List (D×Int))}(k:jb (cH pr) (comD pr) most many p c T r):∀q,p=q+1->c<=T.length->T.length<=most->(∀r∈T.drop c,G q r.1)->∀c5 c6 c7 c8:Option S,
  (∀T',r=some T'->(∃c4' c5' c6' c7' c8',e9 (cy 5) jx (rng (p:Nat) ((many:Int)+1)) (dO pr many most T (some (.sh (.int (c:Nat)))) c5 c6 c7 c8)=some (.next (dO pr many most T' c4' c5' c6' c7' c8')))/\∀E,T'=T++E->∀r∈E,∃j,j<=many/\G j r.1)/\
  (r=none->e9 (cy 5) jx (rng (p:Nat) ((many:Int)+1)) (dO pr many most T (some (.sh (.int (c:Nat)))) c5 c6 c7 c8)=some (.exc (vv most))):=by
 have head:∀(p c:Nat)(T:List (D×Int))(c5 c6 c7 c8:Option S)(o:Option Out),c<=T.length->e9 (cy 7) jy (aR (T.drop c)) (dO pr many most T (some (.sh (.int (T.length:Nat)))) (some (.sh (.int (p:Nat)))) (some (.sh (.lst (aR (T.drop c))))) c7 c8)=o->
   jx (dO pr many most T (some (.sh (.int (c:Nat)))) (some (.sh (.int (p:Nat)))) c6 c7 c8)=o:=λp c T c5 c6 c7 c8 o hc h=>by
  refine ag (aL (Er (ds:=aR T) (GE (o:=.tab (encT T)) rfl rfl) (by show D.lst ((encT T).map (·.1))=_;rw[zN]) rfl (by unfold aR;rw[length_map];exact hc))) (ag (aL (wB (o:=.tab (encT T)) rfl rfl)) ?_)
  rw[kI];have e:(aR T).drop c=aR (T.drop c):=by unfold aR;rw[List.map_drop]
  rw[e];exact j4 (gM (nG (s:=.sh (.lst (aR (T.drop c)))) rfl rfl) h)
 induction k with
 |done p c T h=>
  intro q e hc hl hg c5 c6 c7 c8;rw[Df h];exact⟨λT' e'=>by cases e';exact⟨⟨_,c5,c6,c7,c8,rfl⟩,ja⟩,nofun⟩
 |over p c T h w=>
  intro q e hc hl hg c5 c6 c7 c8;subst e;rw[t5 h];refine⟨nofun,λ_=>wM (ρ1:=dO pr many most T (some (.sh (.int (c:Nat)))) (some (.sh (.int ((q+1:Nat):Int)))) c6 c7 c8) rfl (head (q+1) c T c5 c6 c7 c8 _ hc ?_)⟩;exact(rg (many:=many) hS hm (k:=q) (by omega) (c4:=some (.sh (.int (T.length:Nat)))) (c6:=some (.sh (.lst (aR (T.drop c))))) (aR (T.drop c)) T none w (λs hs=>by obtain⟨r,hr,rfl⟩:=mem_map.mp hs;exact hg r hr) hl c7 c8).2 rfl
 |next p c T T1 r h w k ih=>
  intro q e hc hl hg c5 c6 c7 c8;subst e;rw[t5 h];obtain⟨⟨c7',c8',o⟩,og⟩:=(rg (many:=many) hS hm (k:=q) (by omega) (c4:=some (.sh (.int (T.length:Nat)))) (c6:=some (.sh (.lst (aR (T.drop c))))) (aR (T.drop c)) T _ w (λs hs=>by obtain⟨r,hr,rfl⟩:=mem_map.mp hs;exact hg r hr) hl c7 c8).1 T1 rfl
  obtain⟨E,rfl,W⟩:=iD w T1 rfl;have hn:=head (q+1) c T c5 c6 c7 c8 _ hc o;have hlast:∀r∈(T++E).drop T.length,G (q+1) r.1:=λr hr=>by
   rw[List.drop_left] at hr;exact og E rfl r hr
  obtain⟨i1,i2⟩:=ih (q+1) rfl (by rw[length_append];omega) (W.len hl) hlast (some (.sh (.int ((q+1:Nat):Int)))) (some (.sh (.lst (aR (T.drop c))))) c7' c8'
  refine⟨λT' e'=>?_,λe'=>e8 (ρ1:=dO pr many most T (some (.sh (.int (c:Nat)))) (some (.sh (.int ((q+1:Nat):Int)))) c6 c7 c8) rfl hn (i2 e')⟩;obtain⟨⟨c4',c5',c6',c7'',c8'',y⟩,yg⟩:=i1 T' e';refine⟨⟨c4',c5',c6',c7'',c8'',e8 (ρ1:=dO pr many most T (some (.sh (.int (c:Nat)))) (some (.sh (.int ((q+1:Nat):Int)))) c6 c7 c8) rfl hn y⟩,?_⟩;obtain⟨E2,e2⟩:=mY k T' e';exact su e2 (λr hr=>⟨q+1,h,og E rfl r hr⟩) (yg E2 e2)
end
section
variable{pr b:D}{G:Nat->D->Prop}{most many:Nat}
theorem vw(hbe:fq [pr]=okD b):aI [(eVar 0),(vh (au fq [(eVar 0)])),(eC (.int 0)),(eVar 2)] (dO pr many most [] none none none none none)=some [pr,b,.int 0,.int (most:Nat)]:=by
 unfold aI aI aI aI aI;have q:∀ρ:av,ρ[0]?=some (some (.sh pr))->vh (au fq [(eVar 0)]) ρ=okD b:=λρ h=>B5 (ff (bp h) hbe);rw[q _ rfl];rfl
theorem CU(hS:FC pr G)(hm:most<=400)(h20:many<=1)(g:G 0 b)(hbe:fq [pr]=okD b){T0:List (D×Int)}(w:Walk (cH pr) most 0 (some b) [] (some T0)){r:Option (List (D×Int))}(k:jb (cH pr) (comD pr) most many 1 0 T0 r):
  (∀T,r=some T->eF [pr,.int (many:Nat),.int (most:Nat)]=okL (T.map rowD)/\∀r∈T,∃j,j<=many/\G j r.1)/\(r=none->eF [pr,.int (many:Nat),.int (most:Nat)]=some (.exc (vv most))):=by
 obtain⟨z1,zg⟩:=jO hS hm w g (zero_le _);obtain⟨E,e,W⟩:=mw w T0 rfl;have hl:T0.length<=most:=by rw[e];exact W.len (zero_le _)
 have hg0:∀r∈T0,G 0 r.1:=λr hr=>zg T0 (nil_append _).symm r hr;obtain⟨i1,i2⟩:=Ap hS hm h20 k 0 rfl (zero_le _) hl (λr hr=>hg0 r (List.mem_of_mem_drop hr)) none none none none;have s1:An 3 (aN 9 [pr,.int (many:Nat),.int (most:Nat)])=some (.next (dO pr many most [] none none none none none)):=rfl;have s2:=uY (i:=3) (o:=.tab (encT [])) (ρ:=dO pr many most [] none none none none none) rfl (vw hbe) (hs:=[]) rfl z1;have s3:aX 4 (eC (.int 0)) (dO pr many most T0 none none none none none)=some (.next (dO pr many most T0 (some (.sh (.int ((0:Nat):Int)))) none none none none)):=rfl;have s4:ia (eC (.int 1)) (eBin cz (eVar 1) (eC (.int 1))) (dO pr many most T0 (some (.sh (.int ((0:Nat):Int)))) none none none none)=some (.ok (rng ((1:Nat):Int) ((many:Int)+1))):=
  t8 rfl (ah rfl rfl rfl) (by decide) (by rw[show((many:Int)+1)=((many+1:Nat):Int) by omega];exact lz (by omega))
 refine⟨λT eT=>?_,λeT=>GP rfl (ag s1 (ag s2 (ag s3 (xy (gM s4 (i2 eT))))))⟩;obtain⟨⟨c4,c5,c6,c7,c8,y⟩,yg⟩:=i1 T eT;refine⟨aO rfl (ag s1 (ag s2 (ag s3 (ag (gM s4 y) (bN ?_))))),λr hr=>?_⟩
 ·rw[Ee (i:=3) (o:=.tab (encT T)) rfl rfl];unfold encT;rw[map_map];rfl
 ·obtain⟨E2,e2⟩:=mY k T eT;rw[e2] at hr;rcases mem_append.mp hr with h|h
  ·exact⟨0,zero_le _,hg0 r h⟩
  ·exact yg E2 e2 r h
end
def plD(d:Nat):D:=.tup [.tup [.str "still",.int (d:Nat)],.int 0]
abbrev Bl:=D×Int×Nat
def cq(x:Bl):D:=.tup [x.1,.int x.2.1,.tup [plD x.2.2]]
def mainR(ds:List Nat):D:=.tup [.str "main",.int 0,.tup (ds.map plD)]
def prD(bx:D)(ds:List Nat)(bl:List Bl):D:=.tup [bx,.tup (mainR ds::bl.map cq)]
def fD(r p t:Nat):D:=.tup [.int (r:Nat),.int (p:Nat),.int (t:Nat),.tup []]
def mS(c:D)(p t:Nat):D:=.tup [.tup [fD 0 p t],c]
def bS(c:D)(p t r u:Nat):D:=.tup [.tup [fD 0 p t,fD r 0 u],c]
def bM(ds:List Nat)(bl:List Bl):Nat->List Nat
 |0=>ds
 |r+1=>match bl[r]? with
  |some x=>[x.2.2]
  |none=>[]
theorem iY{ds:List D}{d:D}:dIx (.tup (ds++[d])) (.int (-1))=okD d:=by
 show(xf (ds++[d]) (-1)).bind okD=_;unfold xf IV;rw[if_neg (by decide),if_pos (by rw[length_append,length_singleton];omega)]
 have:((-1:Int)+((ds++[d]).length:Int)).toNat=ds.length:=by rw[length_append,length_singleton];omega
 simp only[Option.bind_some,this];rw[getElem?_append_right (le_refl _),sub_self];rfl
theorem sY{ds:List D}{d:D}:nV (.tup (ds++[d])) none (some (-1))=okD (.tup ds):=by
 have e:iG (ds++[d]).length (ds++[d]).length (some (-1))=ds.length:=by
  show(if(-1:Int)<0 then((-1:Int)+((ds++[d]).length:Int)).toNat else min (-1:Int).toNat (ds++[d]).length)=_;rw[if_pos (by decide),length_append,length_singleton];omega
 show(if(iG (ds++[d]).length 0 none=0/\iG (ds++[d]).length (ds++[d]).length (some (-1))=(ds++[d]).length) then none else okD (.tup (zQ (ds++[d]) none (some (-1)))))=_;rw[e,if_neg (by rw[length_append,length_singleton];omega)]
 show okD (.tup (((ds++[d]).drop 0).take (iG (ds++[d]).length (ds++[d]).length (some (-1)) - 0)))=_;rw[e,List.drop_zero,Nat.sub_zero,List.take_left]
theorem sg{ρ:av}{us:List D}{d:D}(h:ρ[1]?=some (some (.sh (.tup (us++[d]))))):ic (eVar 1) none (some (eC (.int (-1)))) ρ=okD (.tup us):=by
 unfold ic;rw[bp h];exact sY
theorem Ea(ds:List D):fV (.tup ds)=okI (ds.length:Nat):=rfl
section
variable{bx c:D}{ds:List Nat}{bl:List Bl}{r p t d:Nat}{us:List D}
theorem Fe(h:r<=bl.length):∃n k,dIx (.tup (mainR ds::bl.map cq)) (.int (r:Nat))=okD (.tup [n,.int k,.tup ((bM ds bl r).map plD)])/\((r=0/\k=0)\/∃x,bl[r - 1]?=some x/\0<r/\k=x.2.1):=by
 cases r with
 |zero=>exact⟨_,0,bC,.inl ⟨rfl,rfl⟩⟩
 |succ r=>
  have e:bl[r]?=some bl[r]:=getElem?_eq_getElem (by omega)
  refine⟨bl[r].1,bl[r].2.1,?_,.inr ⟨bl[r],e,by omega,rfl⟩⟩
  have e2:bM ds bl (r+1)=[bl[r].2.2]:=by show(match bl[r]? with|some x=>[x.2.2]|none=>[])=_;rw[e]
  rw[e2];exact ix_tup (n:=r+1) (by rw[getElem?_cons_succ,getElem?_map,e];rfl)
theorem iK(h:r<=bl.length):br [prD bx ds bl,.int (r:Nat)]=okD (.tup ((bM ds bl r).map plD)):=by
 obtain⟨n,k,e,_⟩:=Fe (ds:=ds) h;exact aO rfl (bN (ah (ah (ah rfl rfl cS) rfl e) rfl lT))
theorem lH(h:r<=bl.length)(hp:(bM ds bl r)[p]?=some d):dw [prD bx ds bl,.int (r:Nat),.int (p:Nat)]=okD (.tup [.str "still",.int (d:Nat)]):=
 aO rfl (bN (ah (ah (bg rfl rfl (iK h)) rfl (ix_tup (by rw[getElem?_map,hp];rfl))) rfl bC))
theorem j9(h:r<=bl.length):bI [prD bx ds bl,fD r p t]=okB (decide (p=(bM ds bl r).length)):=by
 have e:fV (.tup ((bM ds bl r).map plD))=okI ((bM ds bl r).length:Nat):=by rw[Ea,length_map]
 have z:pf (.int (p:Nat)) (.int ((bM ds bl r).length:Nat))=okB (decide (p=(bM ds bl r).length)):=by
  by_cases c:p=(bM ds bl r).length
  ·rw[decide_eq_true c];exact C8 (by omega)
  ·rw[decide_eq_false c];exact Eo (by omega)
 exact aO rfl (bN (ah (ah rfl rfl cS) (nE (bg rfl (ah rfl rfl bC) (iK h)) e) z))
def Il:Str := "plan"
def qJ(d:Nat):O:=.obj "Still" [Il] [.lst (replicate d (.tup [.tup [],.tup []]))]
theorem rep_flat{α:Type}(n:Nat)(x:α):(replicate n [x]).flatten=replicate n x:=by
 induction n with
 |zero=>rfl
 |succ n ih=>rw[replicate_succ,flatten_cons,ih,replicate_succ];rfl
theorem zP(hd:d<=9):jv [bx,.tup [.str "still",.int (d:Nat)]]=some (.ok (.own (qJ d))):=by
 refine aO rfl (ag (aL (ah rfl rfl bC)) (fg (jX (ah rfl rfl (Em rfl)) (bN (IL (ah rfl rfl cS) (Fv rfl (Ie (Jo (Ih (ds:=[.tup [.tup [],.tup []]]) (k:=(d:Int)) rfl rfl ⟨by omega,by omega,?_⟩) (Fv rfl (Ie (FR (s:=.sh (.lst (replicate d (.tup [.tup [],.tup []])))) ?_ rfl rfl (by decide)) rfl))) ?_)))))))
 ·rw[toNat_natCast,length_singleton];exact le_trans (by omega:1 * d<=9) (by decide)
 ·rw[toNat_natCast,rep_flat];rfl
 ·rfl
theorem EY{turn cells hand:D}{i:Int}(ht:turn=.int i)(o:D):dN [o,turn,cells,hand]=okD (.tup [cells,hand,.int (i+1)]):=by
 subst ht;exact aO rfl (bN (dW rfl rfl (ah rfl rfl (add_int i 1)) rfl))
theorem CT:dM [(qJ d).val]=okI (d:Nat):=
 aO rfl (bN (nE (Jd (d:=.lst (replicate d (.tup [.tup [],.tup []]))) rfl rfl rfl rfl) (by show okI ((replicate d (D.tup [.tup [],.tup []])).length:Nat)=_;rw[length_replicate])))
theorem sG(h:r<=bl.length)(hp:p=(bM ds bl r).length):gN [prD bx ds bl,.tup (us++[fD r p t]),c]=okD .non:=by
 have e:=j9 (bx:=bx) (t:=t) (p:=p) (ds:=ds) h;rw[decide_eq_true hp] at e;exact aO rfl (ag (aL (ah rfl rfl iY)) (fg (jX (bg rfl rfl e) rfl)))
theorem Ah(n:Nat):cz (.int (n:Nat)) (.int 1)=okI ((n+1:Nat):Int):=by rw[add_int];rfl
set_option maxHeartbeats 1000000 in
theorem sJ(h:r<=bl.length)(hp:(bM ds bl r)[p]?=some d)(hd:d<=9)(hu:us.length<=5):
  gN [prD bx ds bl,.tup (us++[fD r p t]),c]=okD (if t+1<d then .tup [.tup (us++[fD r p (t+1)]),c] else if 0<r/\p+1=(bM ds bl r).length then .tup [.tup us,c] else .tup [.tup (us++[fD r (p+1) 0]),c]):=by
 have hlt:p<(bM ds bl r).length:=(List.getElem?_eq_some_iff.mp hp).1;have e1:=j9 (bx:=bx) (t:=t) (p:=p) (ds:=ds) h;rw[decide_eq_false (by omega)] at e1
 have cat:∀f:D,cz (.tup us) (.tup [f])=okD (.tup (us++[f])):=λf=>FB (by rw[length_singleton];omega)
 refine aO rfl (ag (aL (ah rfl rfl iY)) (ag (gL (bg rfl rfl e1) rfl) (ag (aL (bg (ah rfl rfl bC) (dW rfl (ah rfl rfl bC) (ah rfl rfl cS) (lH h hp)) (zP hd))) (j4 (ag (aL (IJ rfl rfl rfl mO (ah rfl rfl lT) rfl (ah rfl rfl Fq) (EY rfl _))) (j4 ?_))))));have hturns:∀ρ:av,ρ[4]?=some (some (.sh (qJ d).val))->jK (Str.ofString "turns") iE (eVar 4) [] ρ=okI (d:Nat):=λρ h=>IK (bp h) rfl rfl mM CT;have lt:∀ρ:av,ρ[4]?=some (some (.sh (qJ d).val))->ρ[5]?=some (some (.sh (.tup [c,.tup [],.int ((t:Int)+1)])))->eBin EF (eBin dIx (eVar 5) (eC (.int 2))) (jK (Str.ofString "turns") iE (eVar 4) []) ρ=okB (decide (t+1<d)):=λρ h4 h5=>by
  refine ah (ah (bp h5) rfl lT) (hturns _ h4) ?_;show EF (.int ((t:Int)+1)) (.int (d:Nat))=_;by_cases q:t+1<d
  ·rw[decide_eq_true q];exact IP (by omega)
  ·rw[decide_eq_false q];exact IR (by omega)
 by_cases q:t+1<d
 ·rw[if_pos q];have e2:=j9 (bx:=bx) (t:=t+1) (p:=p) (ds:=ds) h;rw[decide_eq_false (by omega)] at e2
  have hand:∀ρ:av,ρ[0]?=some (some (.sh (prD bx ds bl)))->ρ[6]?=some (some (.sh (fD r p (t+1))))->gQ (eBin xZ (eBin dIx (eVar 6) (eC (.int 0))) (eC (.int 0))) (au bI [(eVar 0),(eVar 6)]) ρ=okB false:=λρ h0 h6=>by
   by_cases c3:0<r
   ·exact kP (ah (ah (bp h6) rfl bC) rfl (wJ (by show(0:Int)<(r:Nat);omega))) (bg (bp h0) (bp h6) e2)
   ·exact yi (ah (ah (bp h6) rfl bC) rfl (BN (by show ¬(0:Int)<(r:Nat);omega)))
  refine ag (jX ((lt _ rfl rfl).trans (by rw[decide_eq_true q])) (aL (s:=.sh (fD r p (t+1))) (Cr (ah rfl rfl bC) (ah rfl rfl cS) (ah rfl rfl lT) (ah rfl rfl cS) rfl))) (ag (gL (hand _ rfl rfl) rfl) (bN (kl (s1:=.sh (.tup (us++[fD r p (t+1)]))) (s2:=.sh c) (ah (sg rfl) (ff rfl rfl) (cat _)) (ah rfl rfl bC))))
 ·rw[if_neg q];have e2:=j9 (bx:=bx) (t:=0) (p:=p+1) (ds:=ds) h;have s6:∀ρ:av,ρ[3]?=some (some (.sh (fD r p t)))->eTup [(eBin dIx (eVar 3) (eC (.int 0))),(eBin cz (eBin dIx (eVar 3) (eC (.int 1))) (eC (.int 1))),(eC (.int 0)),(eTup [])] ρ=okD (fD r (p+1) 0):=λρ h=>Cr (ah (bp h) rfl bC) (ah (ah (bp h) rfl cS) rfl (Ah _)) rfl rfl rfl;by_cases c2':0<r/\p+1=(bM ds bl r).length
  ·rw[if_pos c2'];rw[decide_eq_true c2'.2] at e2;have hand:∀ρ:av,ρ[0]?=some (some (.sh (prD bx ds bl)))->ρ[6]?=some (some (.sh (fD r (p+1) 0)))->gQ (eBin xZ (eBin dIx (eVar 6) (eC (.int 0))) (eC (.int 0))) (au bI [(eVar 0),(eVar 6)]) ρ=okB true:=λρ h0 h6=>kP (ah (ah (bp h6) rfl bC) rfl (wJ (by show(0:Int)<(r:Nat);omega))) (bg (bp h0) (bp h6) e2)
   exact ag (gL ((lt _ rfl rfl).trans (by rw[decide_eq_false q])) (aL (s6 _ rfl))) (fg (jX (hand _ rfl rfl) (bN (kl (s1:=.sh (.tup us)) (s2:=.sh c) (sg rfl) (ah rfl rfl bC)))))
  ·rw[if_neg c2'];have hand:∀ρ:av,ρ[0]?=some (some (.sh (prD bx ds bl)))->ρ[6]?=some (some (.sh (fD r (p+1) 0)))->gQ (eBin xZ (eBin dIx (eVar 6) (eC (.int 0))) (eC (.int 0))) (au bI [(eVar 0),(eVar 6)]) ρ=okB false:=λρ h0 h6=>by
    by_cases c3:0<r
    ·rw[decide_eq_false (λz=>c2' ⟨c3,z⟩)] at e2;exact kP (ah (ah (bp h6) rfl bC) rfl (wJ (by show(0:Int)<(r:Nat);omega))) (bg (bp h0) (bp h6) e2)
    ·exact yi (ah (ah (bp h6) rfl bC) rfl (BN (by show ¬(0:Int)<(r:Nat);omega)))
   exact ag (gL ((lt _ rfl rfl).trans (by rw[decide_eq_false q])) (aL (s6 _ rfl))) (ag (gL (hand _ rfl rfl) rfl) (bN (kl (s1:=.sh (.tup (us++[fD r (p+1) 0]))) (s2:=.sh c) (ah (sg rfl) (ff rfl rfl) (cat _)) (ah rfl rfl bC))))
theorem oi{pl w:D}(h:gN [prD bx ds bl,pl,c]=okD w):ck [prD bx ds bl,.tup [pl,c]]=okD w:=
 aO rfl (bN (dW rfl (ah rfl rfl bC) (ah rfl rfl cS) h))
end
theorem EM{T:Nat->Option (List D->Option R)}{k:Nat}{gf ga:ME}{ρ:av}{ds:List D}{d:D}{F:List D->Option R}{b:Bool}(h0:gf ρ=okD (.fn k ds))(h1:ga ρ=okD d)(n1:noFn d=true)(n2:iu ds=true)(hT:T k=some F)(hF:F (d::ds)=okB b):sd T gf ga ρ=okB b:=by
 unfold sd;rw[h0];show(b9 (ga ρ) λd=>if noFn d && iu ds then(match T k with|some F=>iw (F (d::ds))|none=>none) else none)=_
 rw[h1];show(if noFn d && iu ds then(match T k with|some F=>iw (F (d::ds))|none=>none) else none)=_
 rw[n1,n2,hT];show iw (F (d::ds))=_;rw[hF];rfl
section
variable{bx c:D}{ds:List Nat}{bl:List Bl}{r p t d:Nat}{us:List D}
theorem yp(h:r<=bl.length):jt [prD bx ds bl,.int (r:Nat),.int (p:Nat)]=okI 0:=by
 have e:fV (.tup ((bM ds bl r).map plD))=okI ((bM ds bl r).length:Nat):=by rw[Ea,length_map]
 by_cases q:p<(bM ds bl r).length
 ·have hp:(bM ds bl r)[p]?=some (bM ds bl r)[p]:=getElem?_eq_getElem q;exact aO rfl (ag (aL (bg rfl rfl (iK h))) (bN (Ft (ah rfl (nE (Cw rfl) e) (IP (by omega))) (ah (ah rfl rfl (ix_tup (d:=plD (bM ds bl r)[p]) (by rw[getElem?_map,hp];rfl))) rfl cS))))
 ·exact aO rfl (ag (aL (bg rfl rfl (iK h))) (bN (Fu (ah rfl (nE (Cw rfl) e) (IR (by omega))) rfl)))
theorem yG:ju [prD bx ds bl,.tup [fD 0 p t]]=okI 0:=by
 have e:e9 (cy 3) lX [fD 0 p t] [some (.sh (prD bx ds bl)),some (.sh (.tup [fD 0 p t])),some (.sh (.int 0)),none]=some (.next [some (.sh (prD bx ds bl)),some (.sh (.tup [fD 0 p t])),some (.sh (.int 0)),some (.sh (fD 0 p t))]):=
  e8 (ρ1:=[some (.sh (prD bx ds bl)),some (.sh (.tup [fD 0 p t])),some (.sh (.int 0)),some (.sh (fD 0 p t))]) rfl (aL (ah rfl (dW rfl (ah rfl rfl bC) (ah rfl rfl cS) (yp (r:=0) (zero_le _))) (ES 0 0))) rfl
 exact aO rfl (ag (aL rfl) (ag (gM (BH rfl rfl) e) (bN rfl)))
theorem uf(hr:∀x∈bl,0<x.2.1){k:Nat}(h0:0<k)(hk:k<=bl.length):eQ [prD bx ds bl,.tup [fD 0 p t],.int (k:Nat)]=okB true:=by
 obtain⟨n,q,e,z⟩:=Fe (ds:=ds) hk;have hq:0<q:=by
  rcases z with⟨a,_⟩|⟨x,a,_,b⟩
  ·omega
  ·rw[b];exact hr x (mem_of_getElem? a)
 have el:∀{ρ:av},ρ[1]?=some (some (.sh (.tup [fD 0 p t])))->eBin dIx (eBin dIx (eVar 1) (eC (.int (-1)))) (eC (.int 0)) ρ=okI ((0:Nat):Int):=λh1=>ah (ah (bp h1) rfl (iY (ds:=[]))) rfl bC;refine aO rfl (ag (aL (ah rfl rfl cS)) (bN (kP (ah (ah (ah rfl rfl e) rfl cS) (ah (ah rfl (el rfl) bC) rfl cS) (wJ hq)) ((EU (w:=0) (bg rfl rfl yG) rfl).trans ?_))));rw[Nat.zero_testBit];rfl
theorem jW(hr:∀x∈bl,0<x.2.1)(hl:bl.length<=7):d9 [prD bx ds bl,mS c p t]=okL ((List.range bl.length).map λk=>.int ((1+k:Nat):Int)):=by
 have hlen:fV (.tup (mainR ds::bl.map cq))=okI ((bl.length+1:Nat):Int):=by rw[Ea,length_cons,length_map]
 have z:=EI (js:=[2]) (ρ:=[some (.sh (prD bx ds bl)),some (.sh (mS c p t)),none]) (it:=ia (eC (.int 1)) (da (f1 fV) [(eBin dIx (eVar 0) (eC (.int 1)))])) (bd:=cy 2) (cond:=au eQ [(eVar 0),(eBin dIx (eVar 1) (eC (.int 0))),(eVar 2)]) (elt:=eVar 2) (List.range bl.length) (λk=>D.int ((1+k:Nat):Int)) (λ_=>true) (λk=>D.int ((1+k:Nat):Int)) (by
  have:=JZ 1 (bl.length+1);rw[show bl.length+1 - 1=bl.length by omega] at this
  rw[←this];exact t8 rfl (nE (ah rfl rfl cS) hlen) (by decide) (lz (by omega))) (by rw[length_range];exact le_trans hl (by decide)) λk hk=>by
  have hk':=mem_range.mp hk;exact⟨_,rfl,dW rfl (ah rfl rfl bC) rfl (uf hr (by omega) (by omega)),λ_=>⟨_,rfl,rfl⟩⟩
 rw[List.filter_eq_self.mpr λ_ _=>rfl] at z;exact aO rfl (bN z)
theorem Hc{k:Nat}:ib [prD bx ds bl,mS c p t,.int (k:Nat)]=okD (bS c p t k 0):=
 aO rfl (bN (kl (s1:=.sh (.tup [fD 0 p t,fD k 0 0])) (s2:=.sh c) (bg (ah rfl rfl bC) rfl (aO rfl (bN (ah rfl rfl (FB (by show 1+1<=100000;decide)))))) (ah rfl rfl cS)))
def mn(ds:List Nat)(p t:Nat):Prop:=(∃d,ds[p]?=some d/\t<d)\/(p=ds.length/\t=0)
theorem Gx(h:mn ds p t):dJ [prD bx ds bl,fD 0 p t]=okD .non:=by
 have e:fV (.tup ((bM ds bl 0).map plD))=okI ((bM ds bl 0).length:Nat):=by rw[Ea,length_map]
 have fin:∀q,q<=ds.length->gy [some (.sh (prD bx ds bl)),some (.sh (fD 0 p t)),some (.sh (.int (q:Nat)))]=some (.ret (.sh .non)):=λq hq=>by
  have pl:∀ρ:av,ρ[0]?=some (some (.sh (prD bx ds bl)))->ρ[1]?=some (some (.sh (fD 0 p t)))->da (f1 fV) [(au br [(eVar 0),(eBin dIx (eVar 1) (eC (.int 0)))])] ρ=okI ((bM ds bl 0).length:Nat):=λρ h0 h1=>nE (bg (bp h0) (ah (bp h1) rfl bC) (iK (r:=0) (zero_le _))) e;by_cases c:q=ds.length
  ·exact fg (jX (Iw (ah rfl (pl _ rfl rfl) (C8 (by show(q:Int)=((ds.length:Nat):Int);omega)))) rfl)
  ·have hql:q<ds.length:=by omega
   have hp:(bM ds bl 0)[q]?=some ds[q]:=getElem?_eq_getElem hql;exact fg (jX (DJ (ah rfl (pl _ rfl rfl) (Eo (by show ¬(q:Int)=(ds.length:Nat);omega))) (ah (ah (dW rfl (ah rfl rfl bC) rfl (lH (r:=0) (zero_le _) hp)) rfl bC) rfl (DY (by decide)))) rfl)
 by_cases ht:t=0
 ·subst ht;exact aO rfl (ag (aL (Ft (ah (ah rfl rfl lT) rfl (C8 rfl)) (ah rfl rfl cS))) (fin p (by
   rcases h with⟨d,h,_⟩|⟨h,_⟩
   ·have:=(List.getElem?_eq_some_iff.mp h).1;omega
   ·omega)))
 ·exact aO rfl (ag (aL (Fu (ah (ah rfl rfl lT) rfl (Eo (by show ¬(t:Int)=0;omega))) (ah (ah rfl rfl cS) rfl (Ah p)))) (fin (p+1) (by
   rcases h with⟨d,h,_⟩|⟨h,h'⟩
   ·have:=(List.getElem?_eq_some_iff.mp h).1;omega
   ·omega)))
theorem yS:dI [bx,.tup [.str "still",.int (d:Nat)]]=okD (.fn 0 []):=by
 unfold dI GS;rw[if_pos (show[bx,D.tup [D.str (Str.ofString "still"),D.int (d:Nat)]].length=2 from rfl)];have e:eBin (JA true) (eBin dIx (eVar 1) (eC (.int 0))) (eTup [(eC (.str "is")),(eC (.str "most"))]) (aN 4 [bx,.tup [.str "still",.int (d:Nat)]])=okB true:=ah (ah rfl rfl bC) (kl rfl rfl) rfl;unfold kE JB;rw[e];rfl
end
section
variable{bx c:D}{ds:List Nat}{bl:List Bl}{r p t d u:Nat}
theorem Bt{pl top:D}:∀(us:List D)(e5 e6:Option S),(∀f∈us,∃p t,f=fD 0 p t/\mn ds p t)->∃e5' e6',e9 (cy 5) jN us [some (.sh (prD bx ds bl)),some (.sh pl),some (.sh c),some (.sh top),some (.own (.lst [])),e5,e6]=some (.next [some (.sh (prD bx ds bl)),some (.sh pl),some (.sh c),some (.sh top),some (.own (.lst [])),e5',e6'])
 |[],e5,e6,_=>⟨e5,e6,rfl⟩
 |f::us,e5,e6,h=>by
  obtain⟨p,t,rfl,hp⟩:=h f (mem_cons_self ..);obtain⟨a,b,z⟩:=Bt (pl:=pl) (top:=top) us (some (.sh (fD 0 p t))) (some (.sh .non)) λf hf=>h f (mem_cons_of_mem _ hf);exact⟨a,b,e8 (ρ1:=[some (.sh (prD bx ds bl)),some (.sh pl),some (.sh c),some (.sh top),some (.own (.lst [])),some (.sh (fD 0 p t)),e6]) rfl (ag (aL (bg rfl rfl (Gx hp))) (gL (yi (jC rfl rfl)) rfl)) z⟩
theorem v3(h:r<=bl.length)(hp:(∃d,(bM ds bl r)[p]?=some d)\/p=(bM ds bl r).length)(us:List D)(hu:∀f∈us,∃p t,f=fD 0 p t/\mn ds p t)(hc:noFn c=true):eU [prD bx ds bl,.tup (us++[fD r p t]),c]=okD (.tup []):=by
 have e1:=j9 (bx:=bx) (t:=t) (p:=p) (ds:=ds) h;rcases hp with⟨d,hp⟩|hp
 ·have:=(List.getElem?_eq_some_iff.mp hp).1;rw[decide_eq_false (by omega)] at e1
  obtain⟨e5,e6,z⟩:=Bt (bx:=bx) (c:=c) (ds:=ds) (bl:=bl) (pl:=.tup (us++[fD r p t])) (top:=fD r p t) us none none hu;refine aO rfl (ag (aL (ah rfl rfl iY)) (ag (gL (bg rfl rfl e1) rfl) (ag (aL rfl) (ag (gM (nG (sg rfl) rfl) z) (ag (gL (tW (EM (bg (ah rfl rfl bC) (dW rfl (ah rfl rfl bC) (ah rfl rfl cS) (lH h hp)) yS) rfl hc rfl rfl rfl)) rfl) (j4 (bN rfl)))))))
 ·rw[decide_eq_true hp] at e1;exact aO rfl (ag (aL (ah rfl rfl iY)) (fg (jX (bg rfl rfl e1) rfl)))
theorem qm{pl w:D}(h:eU [prD bx ds bl,pl,c]=okD w):cj [prD bx ds bl,.tup [pl,c]]=okD w:=
 aO rfl (bN (dW rfl (ah rfl rfl bC) (ah rfl rfl cS) h))
theorem B7(hp:p=ds.length):ck [prD bx ds bl,mS c p t]=okD .non:=oi (sG (r:=0) (us:=[]) (zero_le _) hp)
theorem rE(hp:ds[p]?=some d)(hd:d<=9):ck [prD bx ds bl,mS c p t]=okD (if t+1<d then mS c p (t+1) else mS c (p+1) 0):=by
 have z:=sJ (bx:=bx) (c:=c) (bl:=bl) (r:=0) (t:=t) (us:=[]) (zero_le _) hp hd (zero_le _);rw[if_neg (show ¬(0<0/\p+1=(bM ds bl 0).length) by omega)] at z
 exact oi z
theorem v7{x:Bl}(h0:0<r)(hx:bl[r - 1]?=some x):bM ds bl r=[x.2.2]/\r<=bl.length:=by
 obtain⟨r,rfl⟩:∃q,r=q+1:=⟨r - 1,by omega⟩
 have hx:bl[r]?=some x:=hx;have:=(List.getElem?_eq_some_iff.mp hx).1;refine⟨?_,by omega⟩
 show(match bl[r]? with|some x=>[x.2.2]|none=>[])=_
 rw[hx]
theorem rF{x:Bl}(h0:0<r)(hx:bl[r - 1]?=some x)(hd:x.2.2<=9):ck [prD bx ds bl,bS c p t r u]=okD (if u+1<x.2.2 then bS c p t r (u+1) else mS c p t):=by
 obtain⟨e,hl⟩:=v7 (ds:=ds) h0 hx;have z:=sJ (bx:=bx) (c:=c) (ds:=ds) (r:=r) (p:=0) (t:=u) (us:=[fD 0 p t]) hl (by rw[e];rfl) hd (by show 1<=5;decide)
 rw[if_pos (show 0<r/\0+1=(bM ds bl r).length by rw[e];exact⟨h0,rfl⟩)] at z
 exact oi z
theorem EO(h:mn ds p t)(hc:noFn c=true):cj [prD bx ds bl,mS c p t]=okD (.tup []):=
 qm (v3 (r:=0) (zero_le _) (h.imp (λ⟨d,a,_⟩=>⟨d,a⟩) (·.1)) [] nofun hc)
theorem ER{x:Bl}(h:mn ds p t)(h0:0<r)(hx:bl[r - 1]?=some x)(hc:noFn c=true):cj [prD bx ds bl,bS c p t r u]=okD (.tup []):=by
 obtain⟨e,hl⟩:=v7 (ds:=ds) h0 hx;exact qm (v3 hl (.inl ⟨x.2.2,by rw[e];rfl⟩) [fD 0 p t] (λf hf=>⟨p,t,mem_singleton.mp hf,h⟩) hc)
def Gs(c:D)(ds:List Nat)(bl:List Bl)(k:Nat)(s:D):Prop:=(∃p t,mn ds p t/\s=mS c p t)\/(0<k/\∃p t r u x,mn ds p t/\0<r/\bl[r - 1]?=some x/\s=bS c p t r u)
structure JE(ds:List Nat)(bl:List Bl)(c:D):Prop where
 len:bl.length<=7
 ds:∀d∈ds,1<=d/\d<=9
 bl:∀x∈bl,0<x.2.1/\1<=x.2.2/\x.2.2<=9
 fn:noFn c=true
 ok:okK 5 c=true
theorem K9:okK 4 (fD r p t)=true:=by
 show List.all _ (okK 3)=true;simp only[List.all_cons,List.all_nil,DW,Bool.true_and,Bool.and_true];rfl
theorem mn.nx(h:∀d∈ds,1<=d/\d<=9)(hp:ds[p]?=some d):mn ds (p+1) 0:=by
 have h1:=(List.getElem?_eq_some_iff.mp hp).1;by_cases q:p+1<ds.length
 ·exact .inl ⟨ds[p+1],getElem?_eq_getElem q,(h _ (getElem_mem q)).1⟩
 ·exact .inr ⟨by omega,rfl⟩
theorem FP(h:JE ds bl c):FC (prD bx ds bl) (Gs c ds bl):=by
 refine⟨λk s g=>?_,λk s g=>?_,λk s g=>?_,λk s g hk=>?_,λk s b g hk hb=>?_⟩
 ·rcases g with⟨p,t,_,rfl⟩|⟨_,p,t,r,u,x,_,_,_,rfl⟩
  ·show List.all _ (okK 5)=true;simp only[List.all_cons,List.all_nil,Bool.and_true,Bool.and_eq_true];exact⟨all_eq_true.mpr λd hd=>by rw[mem_singleton.mp hd];exact K9,h.ok⟩
  ·show List.all _ (okK 5)=true;simp only[List.all_cons,List.all_nil,Bool.and_true,Bool.and_eq_true];exact⟨all_eq_true.mpr λd hd=>by
    rcases mem_cons.mp hd with rfl|hd
    ·exact K9
    ·rw[mem_singleton.mp hd];exact K9,h.ok⟩
 ·rcases g with⟨p,t,_,rfl⟩|⟨_,p,t,r,u,x,_,_,_,rfl⟩ <;> rfl
 ·rcases g with⟨p,t,hp,rfl⟩|⟨hk,p,t,r,u,x,hp,h0,hx,rfl⟩
  ·rcases hp with⟨d,hd,ht⟩|⟨hp,ht⟩
   ·have z:=rE (bx:=bx) (c:=c) (bl:=bl) (t:=t) hd (h.ds d (mem_of_getElem? hd)).2;by_cases q:t+1<d
    ·rw[if_pos q] at z;exact .inr ⟨_,by unfold cH;rw[z];rfl,z,trivial,.inl ⟨p,t+1,.inl ⟨d,hd,q⟩,rfl⟩⟩
    ·rw[if_neg q] at z;exact .inr ⟨_,by unfold cH;rw[z];rfl,z,trivial,.inl ⟨p+1,0,mn.nx h.ds hd,rfl⟩⟩
   ·have z:=B7 (bx:=bx) (c:=c) (bl:=bl) (t:=t) hp;exact .inl ⟨by unfold cH;rw[z];rfl,z,trivial⟩
  ·have z:=rF (bx:=bx) (c:=c) (ds:=ds) (p:=p) (t:=t) (u:=u) h0 hx (h.bl x (mem_of_getElem? hx)).2.2;by_cases q:u+1<x.2.2
   ·rw[if_pos q] at z;exact .inr ⟨_,by unfold cH;rw[z];rfl,z,trivial,.inr ⟨hk,p,t,r,u+1,x,hp,h0,hx,rfl⟩⟩
   ·rw[if_neg q] at z;exact .inr ⟨_,by unfold cH;rw[z];rfl,z,trivial,.inl ⟨p,t,hp,rfl⟩⟩
 ·rcases g with⟨p,t,hp,rfl⟩|⟨hk',_⟩
  ·have z:=jW (bx:=bx) (c:=c) (ds:=ds) (p:=p) (t:=t) (λx hx=>(h.bl x hx).1) h.len;exact⟨by unfold comL;rw[z];rfl,trivial,trivial⟩
  ·omega
 ·rcases g with⟨p,t,hp,rfl⟩|⟨hk',_⟩
  ·have z:=jW (bx:=bx) (c:=c) (ds:=ds) (p:=p) (t:=t) (λx hx=>(h.bl x hx).1) h.len;have e:comL (prD bx ds bl) (mS c p t)=(List.range bl.length).map λk=>D.int ((1+k:Nat):Int):=by unfold comL;rw[z];rfl
   rw[e] at hb;obtain⟨j,hj,rfl⟩:=mem_map.mp hb;have hj:=mem_range.mp hj;exact⟨Hc,trivial,.inr ⟨by omega,p,t,1+j,0,bl[j],hp,by omega,by rw[show 1+j - 1=j by omega];exact getElem?_eq_getElem hj,rfl⟩⟩
  ·omega
theorem zJ(h:JE ds bl c){k:Nat}{s:D}(g:Gs c ds bl k s):cj [prD bx ds bl,s]=okD (.tup []):=by
 rcases g with⟨p,t,hp,rfl⟩|⟨hk,p,t,r,u,x,hp,h0,hx,rfl⟩
 ·exact EO hp h.fn
 ·exact ER hp h0 hx h.fn
end
def mh:List Nat->Nat->List (Nat×Nat)
 |[],j=>[(j,0)]
 |d::ds,j=>((List.range' 0 d).map λt=>(j,t))++mh ds (j+1)
def msL(c:D)(ds:List Nat):List D:=(mh ds 0).map λq=>mS c q.1 q.2
def JC(m:D)(r u:Nat):D:=match m with
 |.tup [.tup fs,c]=>.tup [.tup (fs++[fD r 0 u]),c]
 |_=>.non
def pU(bl:List Bl)(k:Nat):Nat:=((bl[k]?).map (·.2.2)).getD 0
def j7(bl:List Bl)(m:D):List (D×List D):=(List.range bl.length).map λk=>(JC m (1+k) 0,(List.range' 0 (pU bl k)).map λu=>JC m (1+k) u)
theorem n6:∀(ds:List Nat)(j:Nat),(mh ds j).length=ds.sum+1
 |[],j=>rfl
 |d::ds,j=>by
  show(((List.range' 0 d).map λt=>(j,t))++mh ds (j+1)).length=_;rw[length_append,length_map,List.length_range',n6 ds (j+1),sum_cons];omega
theorem xE:∀(ds:List Nat)(j:Nat)(q:Nat×Nat),q∈mh ds j->j<=q.1
 |[],j,q,h=>by rw[mem_singleton.mp h];exact le_refl _
 |d::ds,j,q,h=>by
  rcases mem_append.mp (show q∈((List.range' 0 d).map λt=>(j,t))++mh ds (j+1) from h) with h|h
  ·obtain⟨t,_,rfl⟩:=mem_map.mp h;exact le_refl _
  ·have:=xE ds (j+1) q h;omega
theorem xD:∀(ds:List Nat)(j:Nat),(mh ds j).Nodup
 |[],j=>nodup_cons.mpr ⟨nofun,List.nodup_nil⟩
 |d::ds,j=>by
  show(((List.range' 0 d).map λt=>(j,t))++mh ds (j+1)).Nodup;refine nodup_append.mpr ⟨?_,xD ds (j+1),λa ha b hb e=>?_⟩
  ·exact List.pairwise_map.mpr ((List.nodup_range' (step:=1) (h:=by decide)).imp λh e=>h (by injection e))
  ·obtain⟨t,_,rfl⟩:=mem_map.mp ha;have:=xE ds (j+1) b hb;rw[←e] at this;have:j+1<=j:=this;omega
theorem tx:∀(l:List Nat)(pre:List Nat)(q:Nat×Nat),q∈mh l pre.length->mn (pre++l) q.1 q.2
 |[],pre,q,h=>by
  rw[mem_singleton.mp h];exact .inr ⟨by rw[append_nil],rfl⟩
 |d::l,pre,q,h=>by
  rcases mem_append.mp (show q∈((List.range' 0 d).map λt=>(pre.length,t))++mh l (pre.length+1) from h) with h|h
  ·obtain⟨t,ht,rfl⟩:=mem_map.mp h;have ht:=List.mem_range'_1.mp ht;exact .inl ⟨d,by rw[getElem?_append_right (le_refl _),sub_self];rfl,by omega⟩
  ·have:=tx l (pre++[d]) q (by rw[length_append,length_singleton];exact h)
   rw[append_assoc] at this;exact this
theorem GC{c:D}{p t p' t':Nat}(h:mS c p t=mS c p' t'):p=p'/\t=t':=by
 simp only[mS,fD,D.tup.injEq,List.cons.injEq,D.int.injEq] at h;omega
theorem xb{c:D}{p t r u p' t' r' u':Nat}(h:bS c p t r u=bS c p' t' r' u'):p=p'/\t=t'/\r=r'/\u=u':=by
 simp only[bS,fD,D.tup.injEq,List.cons.injEq,D.int.injEq] at h;omega
theorem IM{c:D}{p t r u p' t':Nat}:mS c p' t'≠bS c p t r u:=λh=>by
 simp only[mS,bS,fD,D.tup.injEq,List.cons.injEq] at h;exact absurd h.1.2 (by simp)
section
variable{bx c:D}{ds:List Nat}{bl:List Bl}
theorem uW{e:Option D}{L:List D}{d j:Nat}(h9:d<=9)(hp:ds[j]?=some d)(hL:Ch (cH (prD bx ds bl)) e (some (mS c (j+1) 0)) L):∀(n t:Nat),t+(n+1)=d->Ch (cH (prD bx ds bl)) e (some (mS c j t)) (((List.range' t (n+1)).map λt=>mS c j t)++L)
 |0,t,ht=>by
  have z:=rE (bx:=bx) (c:=c) (bl:=bl) (t:=t) hp h9;rw[if_neg (by omega)] at z
  refine .cons _ _ ?_;rw[show cH (prD bx ds bl) (mS c j t)=some (mS c (j+1) 0) by unfold cH;rw[z];rfl]
  exact hL
 |n+1,t,ht=>by
  have z:=rE (bx:=bx) (c:=c) (bl:=bl) (t:=t) hp h9;rw[if_pos (by omega)] at z
  rw[List.range'_succ];refine .cons _ _ ?_;rw[show cH (prD bx ds bl) (mS c j t)=some (mS c j (t+1)) by unfold cH;rw[z];rfl]
  exact uW h9 hp hL n (t+1) (by omega)
theorem y9(h:∀d∈ds,1<=d/\d<=9):∀(l pre:List Nat),ds=pre++l->Ch (cH (prD bx ds bl)) none (some (mS c pre.length 0)) ((mh l pre.length).map λq=>mS c q.1 q.2)
 |[],pre,e=>by
  have z:=B7 (bx:=bx) (c:=c) (bl:=bl) (ds:=ds) (p:=pre.length) (t:=0) (by rw[e,append_nil])
  refine .cons _ _ ?_;rw[show cH (prD bx ds bl) (mS c pre.length 0)=none by unfold cH;rw[z];rfl]
  exact .nil
 |d::l,pre,e=>by
  have i:=y9 h l (pre++[d]) (by rw[e,append_assoc];rfl)
  rw[length_append,length_singleton] at i;have hd:ds[pre.length]?=some d:=by rw[e,getElem?_append_right (le_refl _),sub_self];rfl
  obtain⟨h1,h9⟩:=h d (mem_of_getElem? hd);obtain⟨n,rfl⟩:∃n,d=n+1:=⟨d - 1,by omega⟩
  show Ch _ _ _ ((((List.range' 0 (n+1)).map λt=>(pre.length,t))++mh l (pre.length+1)).map λq=>mS c q.1 q.2);rw[map_append,map_map];exact uW h9 hd i n 0 (by omega)
theorem ya{p t r:Nat}{x:Bl}(h0:0<r)(hx:bl[r - 1]?=some x)(h9:x.2.2<=9):∀(n u:Nat),u+(n+1)=x.2.2->Ch (cH (prD bx ds bl)) (some (mS c p t)) (some (bS c p t r u)) ((List.range' u (n+1)).map λu=>bS c p t r u)
 |0,u,hu=>by
  have z:=rF (bx:=bx) (c:=c) (ds:=ds) (p:=p) (t:=t) (u:=u) h0 hx h9;rw[if_neg (by omega)] at z
  refine .cons _ _ ?_;rw[show cH (prD bx ds bl) (bS c p t r u)=some (mS c p t) by unfold cH;rw[z];rfl]
  exact .nil
 |n+1,u,hu=>by
  have z:=rF (bx:=bx) (c:=c) (ds:=ds) (p:=p) (t:=t) (u:=u) h0 hx h9;rw[if_pos (by omega)] at z
  rw[List.range'_succ];refine .cons _ _ ?_;rw[show cH (prD bx ds bl) (bS c p t r u)=some (bS c p t r (u+1)) by unfold cH;rw[z];rfl]
  exact ya h0 hx h9 n (u+1) (by omega)
def allB(c:D)(ds:List Nat)(bl:List Bl):List D:=(msL c ds).flatMap λm=>(j7 bl m).flatMap (·.2)
theorem lp{m:D}(h:m∈msL c ds):∃p t,mn ds p t/\m=mS c p t:=by
 obtain⟨q,hq,rfl⟩:=mem_map.mp h;exact⟨q.1,q.2,tx ds [] q hq,rfl⟩
theorem kb(m:D):(j7 bl m).flatMap (·.2)=(List.range bl.length).flatMap λk=>(List.range' 0 (pU bl k)).map λu=>JC m (1+k) u:=by
 unfold j7;rw[List.flatMap_map]
theorem lq{m s:D}(h:s∈(j7 bl m).flatMap (·.2)):∃k u,s=JC m (1+k) u:=by
 rw[kb] at h;obtain⟨k,_,h⟩:=List.mem_flatMap.mp h;obtain⟨u,_,rfl⟩:=mem_map.mp h;exact⟨k,u,rfl⟩
theorem Hn:(msL c ds++allB c ds bl).Nodup:=by
 have hm:(msL c ds).Nodup:=List.pairwise_map.mpr ((xD ds 0).imp λh e=>h (by
  obtain⟨a,b⟩:=GC e;exact Prod.ext a b))
 refine nodup_append.mpr ⟨hm,?_,λa ha b hb e=>?_⟩
 ·refine List.pairwise_flatMap.mpr ⟨λm hm=>?_,?_⟩
  ·obtain⟨p,t,_,rfl⟩:=lp hm;rw[kb];refine List.pairwise_flatMap.mpr ⟨λk _=>?_,?_⟩
   ·exact List.pairwise_map.mpr ((List.nodup_range' (step:=1) (h:=by decide)).imp λh e=>h (xb (c:=c) e).2.2.2)
   ·refine List.nodup_range.imp λh x hx y hy e=>?_;obtain⟨u,_,rfl⟩:=mem_map.mp hx;obtain⟨u',_,rfl⟩:=mem_map.mp hy;have:=(xb (c:=c) e).2.2.1;omega
  ·refine List.Pairwise.imp_of_mem (λ{m m'} h1 h2 h x hx y hy e=>?_) hm;obtain⟨p,t,_,rfl⟩:=lp h1;obtain⟨p',t',_,rfl⟩:=lp h2;obtain⟨k,u,rfl⟩:=lq hx;obtain⟨k',u',rfl⟩:=lq hy;obtain⟨a,b,_⟩:=xb (c:=c) e;exact h (by rw[a,b])
 ·obtain⟨m,hm',hb⟩:=List.mem_flatMap.mp hb;obtain⟨p,t,_,rfl⟩:=lp hm';obtain⟨p',t',_,rfl⟩:=lp ha;obtain⟨k,u,rfl⟩:=lq hb;exact IM e
def sumB(bl:List Bl):Nat:=(bl.map (·.2.2)).sum
theorem pC{α:Type}(n:Nat):∀(l:List α)(f:α->Nat),(∀a∈l,f a=n)->(l.map f).sum=l.length * n
 |[],_,_=>by simp
 |a::l,f,h=>by rw[map_cons,sum_cons,h a (mem_cons_self ..),pC n l f λb hb=>h b (mem_cons_of_mem _ hb),length_cons,Nat.succ_mul,Nat.add_comm]
theorem Bk:∀bl:List Bl,((List.range bl.length).map λk=>pU bl k).sum=sumB bl:=λbl=>by
 unfold sumB;congr 1;refine List.ext_getElem? λi=>?_;rw[getElem?_map,getElem?_map];by_cases hi:i<bl.length
 ·rw[getElem?_range hi,getElem?_eq_getElem hi];show some (((bl[i]?).map (·.2.2)).getD 0)=_;rw[getElem?_eq_getElem hi];rfl
 ·rw[getElem?_eq_none (by rw[length_range];omega),getElem?_eq_none (by omega)];rfl
theorem vb:(allB c ds bl).length=(ds.sum+1) * sumB bl:=by
 unfold allB;rw[List.length_flatMap,pC (sumB bl) _ _ λm _=>?_]
 ·unfold msL;rw[length_map,n6]
 ·rw[kb,List.length_flatMap];rw[←Bk];congr 1;refine map_congr_left λk _=>?_;rw[length_map,List.length_range']
theorem rM:(msL c ds).length=ds.sum+1:=by unfold msL;rw[length_map,n6]
theorem yu(h:JE ds bl c)(hbe:fq [prD bx ds bl]=okD (mS c 0 0)){most:Nat}(hm:most<=400)(hl:ds.sum+1<=most):
  eF [prD bx ds bl,.int (1:Nat),.int (most:Nat)]=(if(ds.sum+1)+(ds.sum+1) * sumB bl<=most then okL ((atP 0 (msL c ds)++atP 1 (allB c ds bl)).map rowD) else some (.exc (vv most)))/\
  ((ds.sum+1)+(ds.sum+1) * sumB bl<=most->∀r∈atP 0 (msL c ds)++atP 1 (allB c ds bl),cj [prD bx ds bl,r.1]=okD (.tup [])):=by
 have hS:=FP (bx:=bx) h;have hc:Ch (cH (prD bx ds bl)) none (some (mS c 0 0)) (msL c ds):=y9 h.ds ds [] rfl;have hL:∀m∈msL c ds,comD (prD bx ds bl) m=(j7 bl m).map (·.1)/\∀x∈j7 bl m,Ch (cH (prD bx ds bl)) (some m) (some x.1) x.2:=λm hm=>by
  obtain⟨p,t,hp,rfl⟩:=lp hm;refine⟨?_,λx hx=>?_⟩
  ·have z:=jW (bx:=bx) (c:=c) (ds:=ds) (p:=p) (t:=t) (λx hx=>(h.bl x hx).1) h.len;have e:comL (prD bx ds bl) (mS c p t)=(List.range bl.length).map λk=>D.int ((1+k:Nat):Int):=by unfold comL;rw[z];rfl
   unfold comD j7;rw[e,map_map,map_map];rfl
  ·obtain⟨k,hk,rfl⟩:=mem_map.mp hx;have hk:=mem_range.mp hk;have hb:=h.bl bl[k] (getElem_mem hk);have e:pU bl k=bl[k].2.2:=by unfold pU;rw[getElem?_eq_getElem hk];rfl
   obtain⟨n,hn⟩:∃n,bl[k].2.2=n+1:=⟨bl[k].2.2 - 1,by omega⟩
   show Ch _ _ (some (bS c p t (1+k) 0)) ((List.range' 0 (pU bl k)).map λu=>bS c p t (1+k) u);rw[e,hn];exact ya (by omega) (by rw[show 1+k - 1=k by omega];exact getElem?_eq_getElem hk) hb.2.2 n 0 (by omega)
 obtain⟨w,k⟩:=Aq (most:=most) (com:=comD (prD bx ds bl)) hc hL Hn (by rw[rM];exact hl)
 have e:(msL c ds).length+((msL c ds).flatMap λm=>(j7 bl m).flatMap (·.2)).length=(ds.sum+1)+(ds.sum+1) * sumB bl:=by
  rw[rM];congr 1;exact vb
 rw[e] at k;obtain⟨t1,t2⟩:=CU hS hm (le_refl 1) (.inl ⟨0,0,by
  cases ds with
  |nil=>exact .inr ⟨rfl,rfl⟩
  |cons d l=>exact .inl ⟨d,rfl,(h.ds d (mem_cons_self ..)).1⟩,rfl⟩) hbe w k
 by_cases q:(ds.sum+1)+(ds.sum+1) * sumB bl<=most
 ·rw[if_pos q] at t1 ⊢;obtain⟨a,b⟩:=t1 _ rfl;exact⟨a,λ_ r hr=>by
   obtain⟨j,_,g⟩:=b r hr;exact zJ h g⟩
 ·rw[if_neg q] at t2 ⊢;exact⟨t2 rfl,λz=>absurd z q⟩
end
def rN(ns:List Int)(k:Int):Int:=if ns=[] then 0 else(ns.getD (k % ns.length).toNat 0)
def ue(ns:List Int)(k:Int):Int:=(rN ns k % 1000003 * 48271+k * k * 7919+1) % 65521
def mixV(ns:List Int)(k:Int):Int:=ue ns k * ue ns k % 65519
theorem Bg{ns:List Int}{k:Int}:0<=mixV ns k/\mixV ns k<65519:=by
 unfold mixV;exact⟨Int.emod_nonneg _ (by omega),Int.emod_lt_of_pos _ (by omega)⟩
theorem E5{ns:List Int}{k:Int}:0<=ue ns k/\ue ns k<65521:=by
 unfold ue;exact⟨Int.emod_nonneg _ (by omega),Int.emod_lt_of_pos _ (by omega)⟩
theorem ud{ns:List Int}{k:Int}(h0:0<=k)(h1:k<=100000):gj [some (.sh (.lst (ns.map D.int))),some (.sh (.int k)),some (.sh (.int (rN ns k))),none]=some (.ret (.sh (.int (mixV ns k)))):=by
 have hw:=E5 (ns:=ns) (k:=k);have hc:0<=rN ns k % 1000003/\rN ns k % 1000003<1000003:=⟨Int.emod_nonneg _ (by omega),Int.emod_lt_of_pos _ (by omega)⟩
 have e:(rN ns k % 1000003 * 48271+k * k * 7919+1) % 65521=ue ns k:=rfl;have e2:ue ns k * ue ns k % 65519=mixV ns k:=rfl;unfold gj jF;simp(disch:=omega) only [aH,aX,nL,eVar,getElem?_cons_succ,getElem?_cons_zero,okD,eC,bindV_ok,S.val_sh,cw,okI,GA,Kd,add_int,e,set_cons_succ,set_cons_zero,bindO_ok,bL,e2]
theorem IT{ns:List Int}{k:Int}(h:ns≠[]):dIx (.lst (ns.map D.int)) (.int (k % ns.length))=okI (rN ns k):=by
 have hl:0<ns.length:=List.length_pos_iff.mpr h;have hp:0<=k % (ns.length:Int):=Int.emod_nonneg _ (by omega)
 have hq:k % (ns.length:Int)<(ns.length:Int):=Int.emod_lt_of_pos _ (by omega)
 have e:(ns.map D.int)[(k % (ns.length:Int)).toNat]?=some (.int (ns.getD (k % (ns.length:Int)).toNat 0)):=by
  have hi:(k % (ns.length:Int)).toNat<ns.length:=by omega
  rw[getElem?_map,List.getD_eq_getElem?_getD,getElem?_eq_getElem hi];rfl
 have z:=wC e;rw[Int.toNat_of_nonneg hp] at z;rw[z];unfold rN;rw[if_neg h]
theorem iT{ns:List Int}{k:Int}(h0:0<=k)(h1:k<=100000):aD [.lst (ns.map D.int),.int k]=okI (mixV ns k):=by
 have hlen:fV (.lst (ns.map D.int))=okI (ns.length:Int):=by show okI ((ns.map D.int).length:Int)=_;rw[length_map]
 by_cases h:ns=[]
 ·refine aO rfl (ag (aL rfl) (ag (gL (ah (nE rfl hlen) rfl (BN (by subst h;simp))) rfl) ?_))
  have:rN ns k=0:=by unfold rN;rw[if_pos h]
  have z:=ud (ns:=ns) h0 h1;rw[this] at z;exact z
 ·have hl:0<ns.length:=List.length_pos_iff.mpr h;exact aO rfl (ag (aL rfl) (ag (jX (ah (nE rfl hlen) rfl (wJ (by omega))) (aL (ah rfl (ah rfl (nE rfl hlen) (cw (by omega))) (IT h)))) (ud h0 h1)))
theorem II{ns:List Int}{k:Int}:mixV ns k % 2=0\/mixV ns k % 2=1:=by omega
theorem zo{ns:List Int}{k:Int}(h0:0<=k)(h1:k<=90000):∃i,aV [.lst (ns.map D.int),.int k]=okI i/\-1000000000<=i/\i<=1000000000:=by
 have hp:EE (.int 10) (.int 9)=okI 1000000000:=rfl;have b1:=Bg (ns:=ns) (k:=k);have b2:=Bg (ns:=ns) (k:=k+1);by_cases c1:mixV ns k % 3=0
 ·refine⟨mixV ns (k+1) % 5 - 2,?_,by omega,by omega⟩
  simp(disch:=omega) only [aV,gv,length_cons,length_nil,reduceAdd,zd,dG,cD,cC,cB,cA,aH,aX,au,bU,eVar,aN,map_cons,map_nil,reduceSub,replicate_succ,List.replicate_zero,cons_append,nil_append,getElem?_cons_zero,okD,getElem?_cons_succ,bindV_ok,S.val_sh,iT,okI,set_cons_succ,set_cons_zero,bindO_ok,nL,eC,add_int,jU,cw,c1,wU,okB,decide_true,asBO,bL,sub_int,cb,ite_true]
 ·by_cases c2:mixV ns k % 17=1
  ·rcases II (ns:=ns) (k:=k+1) with c3|c3
   ·refine⟨1000000000,?_,by omega,by omega⟩
    simp(disch:=omega) only [aV,gv,length_cons,length_nil,reduceAdd,zd,dG,cD,cC,cB,cA,aH,aX,au,bU,eVar,aN,map_cons,map_nil,reduceSub,replicate_succ,List.replicate_zero,cons_append,nil_append,getElem?_cons_zero,okD,getElem?_cons_succ,bindV_ok,S.val_sh,iT,okI,set_cons_succ,set_cons_zero,bindO_ok,nL,eC,add_int,jU,cw,wU,okB,c1,decide_false,asBO,bL,sub_int,cb,Bool.false_eq_true,ite_false,c2,decide_true,eLst,Bu,okL,hp,jw,Fm,Int.reduceNeg,Nat.reduceLeDiff,ite_true,c3,S.val_own,O.val_lst,BG]
   ·refine⟨-1000000000,?_,by omega,by omega⟩
    simp(disch:=omega) only [aV,gv,length_cons,length_nil,reduceAdd,zd,dG,cD,cC,cB,cA,aH,aX,au,bU,eVar,aN,map_cons,map_nil,reduceSub,replicate_succ,List.replicate_zero,cons_append,nil_append,getElem?_cons_zero,okD,getElem?_cons_succ,bindV_ok,S.val_sh,iT,okI,set_cons_succ,set_cons_zero,bindO_ok,nL,eC,add_int,jU,cw,wU,okB,c1,decide_false,asBO,bL,sub_int,cb,Bool.false_eq_true,ite_false,c2,decide_true,eLst,Bu,okL,hp,jw,Fm,Int.reduceNeg,Nat.reduceLeDiff,ite_true,c3,S.val_own,O.val_lst,BF]
  ·refine⟨(mixV ns k * 65519+mixV ns (k+1)) % 2000000001 - 1000000000,?_,by omega,by omega⟩
   simp(disch:=omega) only [aV,gv,length_cons,length_nil,reduceAdd,zd,dG,cD,cC,cB,cA,aH,aX,au,bU,eVar,aN,map_cons,map_nil,reduceSub,replicate_succ,List.replicate_zero,cons_append,nil_append,getElem?_cons_zero,okD,getElem?_cons_succ,bindV_ok,S.val_sh,iT,okI,set_cons_succ,set_cons_zero,bindO_ok,nL,eC,add_int,jU,cw,wU,okB,c1,decide_false,asBO,bL,sub_int,cb,Bool.false_eq_true,ite_false,c2,eLst,Bu,okL,jw,Nat.reduceLeDiff,ite_true,GA]
def tV(ns:List Int)(k:Int):Int:=match aV [.lst (ns.map D.int),.int k] with
 |some (.ok (.sh (.int i)))=>i
 |_=>0
theorem zp{ns:List Int}{k:Int}(h0:0<=k)(h1:k<=90000):aV [.lst (ns.map D.int),.int k]=okI (tV ns k):=by
 obtain⟨i,e,_⟩:=zo (ns:=ns) h0 h1;unfold tV;rw[e]
theorem Fd{i:Nat}{a:ME}{ρ:av}{x:D}(h:a ρ=some (.exc x)):aX i a ρ=some (.exc x):=by unfold aX;rw[h];rfl
section
variable{pr:D}{T:List (D×Int)}
theorem o5{rows:D}(hb:∀r∈T,cj [pr,r.1]=okD (.tup [])):∀(l:List D)(e3 e4:Option S),(∀d∈l,∃i r,r∈T/\d=.tup [.int i,rowD r])->∃e3' e4',e9 (EV [3,4]) fN l [some (.sh pr),some (.sh rows),some (.sh .non),e3,e4]=some (.next [some (.sh pr),some (.sh rows),some (.sh .non),e3',e4'])
 |[],e3,e4,_=>⟨e3,e4,rfl⟩
 |d::l,e3,e4,h=>by
  obtain⟨i,r,hr,rfl⟩:=h d (mem_cons_self ..);obtain⟨a,b,z⟩:=o5 (rows:=rows) hb l (some (.sh (.int i))) (some (.sh (rowD r))) λd hd=>h d (mem_cons_of_mem _ hd);exact⟨a,b,e8 (ρ1:=[some (.sh pr),some (.sh rows),some (.sh .non),some (.sh (.int i)),some (.sh (rowD r))]) rfl (gL (kP (Iw (jC rfl rfl)) (ah (bg rfl (ah rfl rfl bC) (hb r hr)) rfl rfl)) rfl) z⟩
theorem x8(hb:∀r∈T,cj [pr,r.1]=okD (.tup [])):cQ [pr,.lst (T.map rowD)]=okD .non:=by
 have en:=GU T rowD (.non,0) (a:=eVar 1) (ρ:=[some (.sh pr),some (.sh (.lst (T.map rowD))),some (.sh .non),none,none]) rfl (.inl rfl);obtain⟨e3,e4,z⟩:=o5 (rows:=.lst (T.map rowD)) hb ((List.range T.length).map λi:Nat=>D.tup [.int i,rowD (T.getD i (.non,0))]) none none λd hd=>by
  obtain⟨i,hi,rfl⟩:=mem_map.mp hd;have hi:=mem_range.mp hi;refine⟨i,T[i],getElem_mem hi,?_⟩;rw[List.getD_eq_getElem?_getD,getElem?_eq_getElem hi];rfl
 exact aO rfl (ag (aL rfl) (ag (gM en z) (bN rfl)))
variable{most:Int}
theorem zH(ht:eF [pr,.int 1,.int most]=okL (T.map rowD))(hb:∀r∈T,cj [pr,r.1]=okD (.tup [])):j2 [pr,.int 1,.int most]=okD (.tup [.non,.lst (T.map rowD)]):=
 aO rfl (ag (aL (dW rfl rfl rfl ht)) (j4 (ag (aL (B5 (bg rfl rfl (x8 hb)))) (fg (jX (jC rfl rfl) (j4 (bN (kl (s1:=.sh .non) (s2:=.sh (.lst (T.map rowD))) rfl rfl))))))))
theorem BE{x:D}(ht:eF [pr,.int 1,.int most]=some (.exc x)):j2 [pr,.int 1,.int most]=some (.exc x):=
 GP rfl (xy (Fd (dW rfl rfl rfl ht)))
theorem zy(ht:eF [pr,.int 1,.int most]=okL (T.map rowD))(hb:∀r∈T,cj [pr,r.1]=okD (.tup [])):cJ [pr,.int 1,.int most]=okD (.tup [.str "shut",.lst [],.lst (T.map rowD),.lst []]):=
 aO rfl (ag (aL (dW rfl rfl rfl (zH ht hb))) (fg (jX (jC (s:=.sh .non) (ah rfl rfl bC) rfl) (bN (Cr (s1:=.sh (.str "shut")) (s2:=.own (.lst [])) (s3:=.sh (.lst (T.map rowD))) (s4:=.own (.lst [])) rfl rfl (ah rfl rfl cS) rfl rfl)))))
theorem Bi{x:D}(ht:eF [pr,.int 1,.int most]=some (.exc x)):cJ [pr,.int 1,.int most]=some (.exc x):=
 GP rfl (xy (Fd (dW rfl rfl rfl (BE ht))))
theorem Hm{c:String}{f w:Str}{iy:Nat}{g:ME}{ρ:av}{s:S}(h0:ρ[iy]?=some (some (.sh .non)))(h2:g ρ=some (.ok s)):hJ c f w iy g ρ=some (.ret s):=by
 unfold hJ;rw[h0];dsimp only;rw[h2]
theorem Hl{c:String}{f w:Str}{iy:Nat}{g:ME}{ρ:av}{n:Int}(h0:ρ[iy]?=some (some (.sh .non)))(h2:g ρ=some (.exc (wR c f n))):hJ c f w iy g ρ=some (.ret (.sh (.tup [.str w,.int n]))):=by
 unfold hJ;rw[h0];dsimp only;rw[h2];unfold wR;dsimp only;rw[if_pos ⟨rfl,rfl⟩]
theorem IY{c a b:ME}{ρ:av}{r:Option R}(h:c ρ=okB true)(h2:a ρ=r):uO c a b ρ=r:=by unfold uO;rw[h];exact h2
theorem IZ{c a b:ME}{ρ:av}{r:Option R}(h:c ρ=okB false)(h2:b ρ=r):uO c a b ρ=r:=by unfold uO;rw[h];exact h2
theorem Cp{mo:D}{ρ:av}{r:Option R}(hmo:(mo=.non/\most=300)\/mo=.int most)(h0:ρ[0]?=some (some (.sh pr)))(h1:ρ[1]?=some (some (.sh mo)))(hm:cJ [pr,.int 1,.int most]=r):
  uO (jw sf (eVar 1)) (mI cJ (300) [(eVar 0),(eC (.int 1))]) (se cJ [(eVar 0),(eC (.int 1)),(eVar 1)]) ρ=r:=by
 rcases hmo with⟨rfl,rfl⟩|rfl
 ·refine IY (jC (bp h1) rfl) ?_;unfold mI aI aI aI;rw[bp h0];exact hm
 ·refine IZ (jC (bp h1) rfl) ?_;unfold se aI aI aI aI;rw[bp h0,bp h1];exact hm
theorem rR{mo:D}{d:D}(hmo:(mo=.non/\most=300)\/mo=.int most)(h:cJ [pr,.int 1,.int most]=okD d):eS [pr,mo]=okD d:=
 aO rfl (ag (aL rfl) (ag (aL rfl) (Hm rfl (Cp hmo rfl rfl h))))
theorem ux{mo:D}{n:Int}(hmo:(mo=.non/\most=300)\/mo=.int most)(h:cJ [pr,.int 1,.int most]=some (.exc (wR "TooMany" (Str.ofString "most") n))):eS [pr,mo]=okD (.tup [.str "refused",.int n]):=
 aO rfl (ag (aL rfl) (ag (aL rfl) (Hl rfl (Cp hmo rfl rfl h))))
theorem Dg{cnt:Int}(h:most<cnt):eR [.tup [.str "refused",.int most],.int cnt,.int most]=okB true:=by
 refine aO rfl (ag (gL (tW (jC rfl rfl)) rfl) (fg (jX (ah rfl rfl (wJ h)) (bN (ah rfl (kl rfl rfl) ?_)))));show(ml 2 (.tup [.str "refused",.int most]) (.tup [.str "refused",.int most])).bind (λb=>okB b)=okB true;have:ml 2 (.tup [.str "refused",.int most]) (.tup [.str "refused",.int most])=some true:=by
  show(some (("refused":Str) == ("refused":Str))).bind (λb=>((some (most == most)).bind λb=>(some true).bind λc=>some (b && c)).bind λc=>some (b && c))=some true;simp
 rw[this];rfl
theorem Ar{cnt:Int}{l:List D}(h:cnt<=most)(hc:(l.length:Int)=cnt):eR [.tup [.str "shut",.lst [],.lst l,.lst []],.int cnt,.int most]=okB true:=
 aO rfl (ag (gL (tW (jC rfl rfl)) rfl) (ag (gL (ah rfl rfl (BN (by show ¬most<cnt;omega))) rfl) (ag (gL (DJ (ah (nE (Cw rfl) rfl) rfl (Kb rfl)) (DJ (ah (ah rfl rfl bC) rfl (DZ rfl)) (DJ (ah (ah rfl rfl cS) rfl rfl) (ah (ah rfl rfl Fq) rfl rfl)))) rfl)
  (bN (kP (jC (ah rfl rfl lT) rfl) (ah (nE (ah rfl rfl lT) rfl) rfl (C8 hc)))))))
end
def stl:Nat->Int->List Nat
 |0,_=>[]
 |f+1,m=>if 0<m then(min 9 m).toNat::stl f (m - 9) else[]
theorem Ai:∀(f:Nat)(m:Int),∀d∈stl f m,1<=d/\d<=9
 |0,_,d,h=>nomatch h
 |f+1,m,d,h=>by
  unfold stl at h;split at h
  ·rcases mem_cons.mp h with rfl|h
   ·omega
   ·exact Ai f _ d h
  ·cases h
theorem xw:∀(f:Nat)(m:Int),m<=9 * f->(stl f m).sum=m.toNat
 |0,m,h=>by show(0:Nat)=m.toNat;omega
 |f+1,m,h=>by
  unfold stl;split
  ·rw[sum_cons,xw f (m - 9) (by omega)];omega
  ·show(0:Nat)=m.toNat;omega
theorem lN:∀(f:Nat)(m:Int)(acc:List D)(n:Nat),m<=9 * f->f<n->acc.length+f<=1000->∃m':Int,bD (eBin xZ (eVar 0) (eC (.int 0))) fM n [some (.sh (.int m)),some (.own (.lst acc))]=some (.next [some (.sh (.int m')),some (.own (.lst (acc++(stl f m).map plD)))])
 |f,m,acc,n,h,hn,hl=>by
  obtain⟨n,rfl⟩:∃k,n=k+1:=⟨n - 1,by omega⟩
  by_cases hm:0<m
  ·cases f with
   |zero=>omega
   |succ f=>
    have e:stl (f+1) m=(min 9 m).toNat::stl f (m - 9):=by show(if 0<m then _ else _)=_;rw[if_pos hm]
    obtain⟨m',z⟩:=lN f (m - 9) (acc++[plD (min 9 m).toNat]) n (by omega) (by omega) (by rw[length_append,length_singleton];omega)
    refine⟨m',qE (ah rfl rfl (wJ hm)) (ag (va (s:=.sh (plD (min 9 m).toNat)) rfl (kl (s1:=.sh (.tup [.str "still",.int ((min 9 m).toNat:Nat)])) (s2:=.sh (.int 0)) (kl (s1:=.sh (.str "still")) (s2:=.sh (.int ((min 9 m).toNat:Nat))) rfl (bg rfl rfl ?_)) rfl) ?_) (aL (ah rfl rfl (sub_int m 9)))) ?_⟩
    ·show okI (if m<9 then m else 9)=okI (((min 9 m).toNat:Nat):Int);congr 1;split <;> omega
    ·exact lt_of_lt_of_le (show acc.length<1000 by omega) (by decide)
    ·rw[e,map_cons];rw[append_assoc] at z;exact z
  ·refine⟨m,?_⟩;have e:stl f m=[]:=by
    cases f with
    |zero=>rfl
    |succ f=>show(if 0<m then _ else _)=_;rw[if_neg hm]
   rw[e,map_nil,append_nil];exact qF (ah rfl rfl (BN hm))
theorem Aj{m:Int}(h:m<=108):fo [.int m]=okD (.tup ((stl 12 m).map plD)):=by
 obtain⟨m',z⟩:=lN 12 m [] 5000 (by omega) (by decide) (by decide)
 rw[nil_append] at z;exact aO rfl (ag (aL rfl) (ag (show qO (λ_=>5000) (eBin xZ (eVar 0) (eC (.int 0))) fM _=_ from z) (j4 (bN (ff (s1:=.sh (.lst ((stl 12 m).map plD))) rfl rfl)))))
def xN:Nat->D
 |0=>.str "p"
 |1=>.str "q"
 |_=>.str "r"
theorem Gy{k:Nat}(h:k<3):dIx (.str "pqr") (.int (k:Nat))=okD (xN k):=by
 rcases(show k=0\/k=1\/k=2 by omega) with rfl|rfl|rfl <;> rfl
theorem D6:cI [.tup []]=okD (.tup []):=rfl
theorem D5(n:Int):cI [.tup [.tup [.str "a",.tup [.int n]]]]=okD (.tup [.int n]):=by
 have e:e9 (cy 2) jM [.tup [.str "a",.tup [.int n]]] [some (.sh (.tup [.tup [.str "a",.tup [.int n]]])),some (.own (.lst [])),none]=some (.next [some (.sh (.tup [.tup [.str "a",.tup [.int n]]])),some (.own (.lst [.int n])),some (.sh (.tup [.str "a",.tup [.int n]]))]):=
  e8 (ρ1:=[some (.sh (.tup [.tup [.str "a",.tup [.int n]]])),some (.own (.lst [])),some (.sh (.tup [.str "a",.tup [.int n]]))]) rfl (C3 (es:=[.int n]) rfl (ah rfl rfl cS) rfl (by show 0+1<=lim;decide)) rfl
 exact aO rfl (ag (aL rfl) (ag (gM (BH rfl rfl) e) (j4 (bN (ff (s1:=.sh (.lst [.int n])) rfl rfl)))))
theorem Cu{bx c:D}{ds:List Nat}{bl:List Bl}(h:cI [bx]=okD c):fq [prD bx ds bl]=okD (mS c 0 0):=
 aO rfl (bN (kl (s1:=.sh (.tup [fD 0 0 0])) (s2:=.sh c) rfl (ff (ah rfl rfl bC) h)))
def iU(ns:List Int)(far:Bool)(k:Nat):Nat:=if far then 9 else(1+mixV ns (5+k) % 3).toNat
def oh(ns:List Int)(far:Bool)(k:Nat):Bl:=(xN k,1+mixV ns 4 % 9,iU ns far k)
def blM(ns:List Int)(far:Bool)(n:Nat):List Bl:=(List.range n).map (oh ns far)
theorem v5(ns:List Int)(far:Bool)(n:Nat):blM ns far (n+1)=blM ns far n++[oh ns far n]:=by unfold blM;rw[List.range_succ,map_append];rfl
theorem sW(l:List Bl)(x:Bl):sumB (l++[x])=sumB l+x.2.2:=by unfold sumB;rw[map_append,List.sum_append];simp
theorem Bm(ns:List Int)(far:Bool)(k:Nat):1<=iU ns far k/\iU ns far k<=9:=by
 unfold iU;cases far
 ·show 1<=(1+mixV ns (5+k) % 3).toNat/\(1+mixV ns (5+k) % 3).toNat<=9;omega
 ·exact⟨show 1<=9 by decide,le_refl _⟩
theorem Hh(ns:List Int)(far:Bool)(n:Nat):∀x∈blM ns far n,0<x.2.1/\1<=x.2.2/\x.2.2<=9:=λx hx=>by
 obtain⟨k,_,rfl⟩:=mem_map.mp hx;have h:=Bm ns far k;show 0<1+mixV ns 4 % 9/\1<=iU ns far k/\iU ns far k<=9;omega
theorem yb(ns:List Int)(far:Bool):∀n:Nat,n * (if far then 9 else 1)<=sumB (blM ns far n)/\sumB (blM ns far n)<=n * (if far then 9 else 3)
 |0=>⟨by simp,by simp[sumB,blM]⟩
 |n+1=>by
  obtain⟨a,b⟩:=yb ns far n;rw[v5,sW];have e:(oh ns far n).2.2=iU ns far n:=rfl;rw[e];cases far
  ·have h2:iU ns false n=(1+mixV ns (5+n) % 3).toNat:=rfl;have a:n * 1<=sumB (blM ns false n):=a;have b:sumB (blM ns false n)<=n * 3:=b;show(n+1) * 1<=_/\_<=(n+1) * 3;omega
  ·have h2:iU ns true n=9:=rfl;have a:n * 9<=sumB (blM ns true n):=a;have b:sumB (blM ns true n)<=n * 9:=b;show(n+1) * 9<=_/\_<=(n+1) * 9;omega
def S13(ns:List Int)(far:Bool)(c2 c3 c4 c5 c6 c7 c8 c9 c10 c11 c12:Option S):av:=[some (.sh (.lst (ns.map D.int))),some (.sh (.bl far)),c2,c3,c4,c5,c6,c7,c8,c9,c10,c11,c12]
theorem law_true(ns:List Int)(_:ns.length<=63):xS [.lst (ns.map D.int)]=some (.ok (.sh (.bl true))):=by
 have mx:∀k:Int,0<=k->k<=100000->aD [.lst (ns.map D.int),.int k]=okI (mixV ns k):=λk h0 h1=>iT h0 h1;obtain⟨far,hfar⟩:∃far,decide (mixV ns 1 % 8=1)=far:=⟨_,rfl⟩;have e1:aX 1 (eBin pf (eBin dMod (au aD [(eVar 0),(eC (.int 1))]) (eC (.int 8))) (eC (.int 1))) (aN 13 [.lst (ns.map D.int)])=some (.next (S13 ns far none none none none none none none none none none none)):=by
  rw[←hfar];exact aL (s:=.sh (.bl (decide (mixV ns 1 % 8=1)))) (ah (s:=.sh (.int (mixV ns 1 % 8))) (ah (bg rfl rfl (mx 1 (by decide) (by decide))) rfl (cw (by decide))) rfl (wU _ _))
 obtain⟨rk,hrk⟩:∃rk,1+mixV ns 4 % 9=rk:=⟨_,rfl⟩;have e2:aX 2 (eBin cz (eC (.int 1)) (eBin dMod (au aD [(eVar 0),(eC (.int 4))]) (eC (.int 9)))) (S13 ns far none none none none none none none none none none none)=some (.next (S13 ns far (some (.sh (.int rk))) none none none none none none none none none none)):=by
  rw[←hrk];exact aL (s:=.sh (.int (1+mixV ns 4 % 9))) (ah rfl (ah (bg rfl rfl (mx 4 (by decide) (by decide))) rfl (cw (by decide))) (add_int _ _))
 obtain⟨nb,hnb,enb⟩:∃nb:Nat,(1<=nb/\nb<=3)/\1+mixV ns 2 % 3=(nb:Int):=⟨(1+mixV ns 2 % 3).toNat,by omega,by omega⟩
 obtain⟨ρ',el,e5,e12,rfl⟩:=wN (bd:=cy 5) (body:=yd) (ρ:=S13 ns far (some (.sh (.int rk))) (some (.own (.lst []))) (some (.sh (.int 0))) none none none none none none none none) (λk ρ=>∃e5 e12:Option S,ρ=S13 ns far (some (.sh (.int rk))) (some (.own (.lst ((blM ns far k).map cq)))) (some (.sh (.int (sumB (blM ns far k):Nat)))) e5 none none none none none none e12) nb ⟨none,none,rfl⟩ (by
  rintro k ρ hk ⟨e5,e12,rfl⟩
  have hk3:k<3:=by omega
  have hm0:(((1+mixV ns (5+k) % 3).toNat:Nat):Int)=1+mixV ns (5+k) % 3:=by omega
  have s12:∀(ρ:av),ρ[0]?=some (some (.sh (.lst (ns.map D.int))))->ρ[5]?=some (some (.sh (.int (k:Nat))))->eBin cz (eC (.int 1)) (eBin dMod (au aD [(eVar 0),(eBin cz (eC (.int 5)) (eVar 5))]) (eC (.int 3))) ρ=okI (1+mixV ns (5+k) % 3):=λρ h0 h5=>
   ah rfl (ah (bg (bp h0) (ah rfl (bp h5) (add_int _ _)) (mx (5+k) (by omega) (by omega))) rfl (cw (by decide))) (add_int _ _)
  have st:∀(many:Nat)(ρ:av),iU ns far k=many->ρ=S13 ns far (some (.sh (.int rk))) (some (.own (.lst ((blM ns far k).map cq)))) (some (.sh (.int (sumB (blM ns far k):Nat)))) (some (.sh (.int (k:Nat)))) none none none none none none (some (.sh (.int (many:Nat))))->qu ρ=some (.next (S13 ns far (some (.sh (.int rk))) (some (.own (.lst ((blM ns far (k+1)).map cq)))) (some (.sh (.int (sumB (blM ns far (k+1)):Nat)))) (some (.sh (.int (k:Nat)))) none none none none none none (some (.sh (.int (many:Nat)))))):=λmany ρ hm hρ=>by
   subst hρ;have z:=va (i:=3) (ρ:=S13 ns far (some (.sh (.int rk))) (some (.own (.lst ((blM ns far k).map cq)))) (some (.sh (.int ((sumB (blM ns far k):Nat)+(many:Nat):Int)))) (some (.sh (.int (k:Nat)))) none none none none none none (some (.sh (.int (many:Nat))))) (a:=eTup [(eBin dIx (eC (.str "pqr")) (eVar 5)),(eVar 2),(eTup [(eTup [(eTup [(eC (.str "still")),(eVar 12)]),(eC (.int 0))])])]) (s:=.sh (cq (oh ns far k))) rfl (by
    rw[show cq (oh ns far k)=.tup [xN k,.int rk,.tup [plD many]] by unfold oh cq;rw[hrk,hm]]
    exact dW (s1:=.sh (xN k)) (s2:=.sh (.int rk)) (s3:=.sh (.tup [plD many])) (ah rfl rfl (Gy hk3)) rfl (ff (s1:=.sh (plD many)) (kl (s1:=.sh (.tup [.str "still",.int (many:Nat)])) (s2:=.sh (.int 0)) (kl (s1:=.sh (.str "still")) (s2:=.sh (.int (many:Nat))) rfl rfl) rfl) rfl) rfl) (by
    rw[length_map];unfold blM;rw[length_map,length_range];exact lt_of_lt_of_le hk3 (by decide))
   refine ag (aL (ah rfl rfl (add_int _ _))) (Eq.trans z ?_);rw[v5,sW,map_append];rw[show((sumB (blM ns far k):Nat):Int)+(many:Nat)=((sumB (blM ns far k)+(oh ns far k).2.2:Nat):Int) by show _=((sumB (blM ns far k)+iU ns far k:Nat):Int);omega]
   rfl
  cases far with
  |false=>
   refine⟨S13 ns false (some (.sh (.int rk))) (some (.own (.lst ((blM ns false k).map cq)))) (some (.sh (.int (sumB (blM ns false k):Nat)))) (some (.sh (.int (k:Nat)))) none none none none none none e12,_,rfl,ag (aL (s:=.sh (.int (((1+mixV ns (5+k) % 3).toNat:Nat):Int))) ((s12 _ rfl rfl).trans (by rw[hm0]))) (ag (gL rfl rfl) (st _ _ rfl rfl)),_,_,rfl⟩
  |true=>
   refine⟨S13 ns true (some (.sh (.int rk))) (some (.own (.lst ((blM ns true k).map cq)))) (some (.sh (.int (sumB (blM ns true k):Nat)))) (some (.sh (.int (k:Nat)))) none none none none none none e12,_,rfl,ag (aL (s:=.sh (.int (((1+mixV ns (5+k) % 3).toNat:Nat):Int))) ((s12 _ rfl rfl).trans (by rw[hm0]))) (ag (jX rfl (aL rfl)) (st 9 _ rfl rfl)),_,_,rfl⟩)
 have e3:kG (eBin cz (eC (.int 1)) (eBin dMod (au aD [(eVar 0),(eC (.int 2))]) (eC (.int 3)))) (S13 ns far (some (.sh (.int rk))) (some (.own (.lst []))) (some (.sh (.int 0))) none none none none none none none none)=some (.ok (rng 0 (nb:Nat))):=
  Au ((ah rfl (ah (bg rfl rfl (mx 2 (by decide) (by decide))) rfl (cw (by decide))) (add_int _ _)).trans (by show okI (1+mixV ns 2 % 3)=_;rw[enb])) (lz (by omega))
 have hsum:=yb ns far nb;have hbl:=Hh ns far nb;have hlen:(blM ns far nb).length=nb:=by unfold blM;rw[length_map,length_range]
 generalize blM ns far nb=bl at el hsum hbl hlen;generalize hst:sumB bl=st at el hsum;obtain⟨sz,hsz,hcap,esz⟩:∃sz:Nat,(2<=sz/\sz<=109)/\sz+sz * st<=356/\∀(o:Option Out),xr (S13 ns far (some (.sh (.int rk))) (some (.own (.lst (bl.map cq)))) (some (.sh (.int (st:Nat)))) e5 (some (.sh (.int (sz:Nat)))) none none none none none e12)=o->qH (S13 ns far (some (.sh (.int rk))) (some (.own (.lst (bl.map cq)))) (some (.sh (.int (st:Nat)))) e5 none none none none none none e12)=o:=by
  have s5:∀(o:Option Out),xu (S13 ns far (some (.sh (.int rk))) (some (.own (.lst (bl.map cq)))) (some (.sh (.int (st:Nat)))) e5 (some (.sh (.int (2+mixV ns 9 % 5)))) none none none none none e12)=o->qH (S13 ns far (some (.sh (.int rk))) (some (.own (.lst (bl.map cq)))) (some (.sh (.int (st:Nat)))) e5 none none none none none none e12)=o:=λo h=>
   ag (aL (s:=.sh (.int (2+mixV ns 9 % 5))) (ah rfl (ah (bg rfl rfl (mx 9 (by decide) (by decide))) rfl (cw (by decide))) (add_int _ _))) h
  cases far with
  |false=>
   have hs:st<=nb * 3:=hsum.2;refine⟨(2+mixV ns 9 % 5).toNat,by omega,?_,λo h=>s5 o (ag (gL rfl rfl) ?_)⟩
   ·have a:(2+mixV ns 9 % 5).toNat<=6:=by omega
    have b:st<=9:=by omega
    have:=Nat.mul_le_mul a b;omega
   ·rw[show((2+mixV ns 9 % 5).toNat:Int)=2+mixV ns 9 % 5 by omega] at h
    exact h
  |true=>
   have hs:st<=nb * 9:=hsum.2;have hs27:st<=27:=by omega
   obtain⟨x,hx,ex⟩:∃x:Nat,x<=1/\mixV ns 9 % 2=(x:Int):=⟨(mixV ns 9 % 2).toNat,by omega,by omega⟩
   have hq:=Nat.div_mul_le_self 300 (1+st);have hlo:10<=300 / (1+st):=(Nat.le_div_iff_mul_le (by omega)).mpr (by omega)
   have hs9:nb * 9<=st:=hsum.1;have hhi:300 / (1+st)<=100:=by
    have h1:300 / (1+st) * 3<=300:=le_trans (Nat.mul_le_mul_left _ (by omega:3<=1+st)) hq
    omega
   refine⟨300 / (1+st)+x,by omega,?_,λo h=>s5 o (ag (jX rfl (aL (s:=.sh (.int ((300 / (1+st)+x:Nat):Int))) (ah (s:=.sh (.int (300 / (1+(st:Int))))) (t:=.sh (.int (x:Nat))) (ah rfl (ah rfl rfl (add_int _ _)) (BZ (by show(0:Int)<1+(st:Nat);omega) (by show(1:Int)+(st:Nat)<1073741824;omega))) ((ah (bg rfl rfl (mx 9 (by decide) (by decide))) rfl (cw (by decide))).trans (by show okI (mixV ns 9 % 2)=_;rw[ex])) ?_))) h)⟩
   ·have e:300 / (1+st)+x+(300 / (1+st)+x) * st=(300 / (1+st)+x) * (1+st):=by rw[Nat.mul_add,Nat.mul_one]
    rw[e];have a:300 / (1+st)+x<=300 / (1+st)+1:=by omega
    refine le_trans (Nat.mul_le_mul_right _ a) ?_;rw[Nat.add_mul];omega
   ·show cz (.int (300 / (1+(st:Int)))) (.int (x:Nat))=okI ((300 / (1+st)+x:Nat):Int);rw[add_int];congr 1
 obtain⟨bx,c,hbx,hfn,hok,ebx⟩:∃bx c:D,cI [bx]=okD c/\noFn c=true/\okK 5 c=true/\eBin dIx (eLst [(eTup []),(eTup [(eTup [(eC (.str "a")),(eTup [(au aV [(eVar 0),(eC (.int 10))])])])])]) (eBin dMod (au aD [(eVar 0),(eC (.int 12))]) (eC (.int 2))) (S13 ns far (some (.sh (.int rk))) (some (.own (.lst (bl.map cq)))) (some (.sh (.int (st:Nat)))) e5 (some (.sh (.int (sz:Nat)))) none none none none none e12)=okD bx:=by
  have hn:=zp (ns:=ns) (k:=10) (by decide) (by decide)
  have el:eLst [(eTup []),(eTup [(eTup [(eC (.str "a")),(eTup [(au aV [(eVar 0),(eC (.int 10))])])])])] (S13 ns far (some (.sh (.int rk))) (some (.own (.lst (bl.map cq)))) (some (.sh (.int (st:Nat)))) e5 (some (.sh (.int (sz:Nat)))) none none none none none e12)=okL [.tup [],.tup [.tup [.str "a",.tup [.int (tV ns 10)]]]]:=
   bg (s1:=.sh (.tup [])) (s2:=.sh (.tup [.tup [.str "a",.tup [.int (tV ns 10)]]])) rfl (ff (s1:=.sh (.tup [.str "a",.tup [.int (tV ns 10)]])) (kl (s1:=.sh (.str "a")) (s2:=.sh (.tup [.int (tV ns 10)])) rfl (ff (s1:=.sh (.int (tV ns 10))) (bg rfl rfl hn) rfl)) rfl) rfl
  have em:eBin dMod (au aD [(eVar 0),(eC (.int 12))]) (eC (.int 2)) (S13 ns far (some (.sh (.int rk))) (some (.own (.lst (bl.map cq)))) (some (.sh (.int (st:Nat)))) e5 (some (.sh (.int (sz:Nat)))) none none none none none e12)=okI (mixV ns 12 % 2):=ah (bg rfl rfl (mx 12 (by decide) (by decide))) rfl (cw (by decide))
  rcases II (ns:=ns) (k:=12) with e|e
  ·rw[e] at em;exact⟨.tup [],.tup [],D6,rfl,rfl,ah el em BG⟩
  ·rw[e] at em;exact⟨_,.tup [.int (tV ns 10)],D5 _,rfl,rfl,ah el em BF⟩
 have hds:=Ai 12 ((sz:Int) - 1);have hsumd:=xw 12 ((sz:Int) - 1) (by omega)
 have hstl:=Aj (m:=(sz:Int) - 1) (by omega)
 generalize stl 12 ((sz:Int) - 1)=ds at hds hsumd hstl;have hsz1:ds.sum+1=sz:=by omega
 have hP:JE ds bl c:=⟨by omega,hds,hbl,hfn,hok⟩
 have hbe:=Cu (ds:=ds) (bl:=bl) hbx;obtain⟨x13,hx13,e13⟩:∃x:Nat,x<=4/\mixV ns 13 % 5=(x:Int):=⟨(mixV ns 13 % 5).toNat,by omega,by omega⟩
 have hst0:nb * 1<=st:=le_trans (Nat.mul_le_mul_left _ (by cases far <;> decide)) hsum.1
 have hlarge:sz<=sz * st:=Nat.le_mul_of_pos_right _ (by omega)
 obtain⟨m0,hm0⟩:∃m0:Nat,sz+sz * st+x13=m0+2:=⟨sz+sz * st+x13 - 2,by omega⟩
 have steps:∀o:Option Out,sQ (S13 ns far (some (.sh (.int rk))) (some (.sh (.lst (bl.map cq)))) (some (.sh (.int (st:Nat)))) e5 (some (.sh (.int (sz:Nat)))) (some (.sh bx)) (some (.sh (prD bx ds bl))) (some (.sh (.int ((sz+sz * st:Nat):Int)))) (some (.own (.lst [.int (m0:Nat)]))) none e12)=o->Fn (aN 13 [.lst (ns.map D.int)])=o:=λo h=>by
  refine ag e1 (ag e2 (ag (aL rfl) (ag (aL rfl) (ag (gM e3 el) (esz o (ag (aL ebx) (j4 (ag (aL (s:=.sh (prD bx ds bl)) ?_) (ag (aL (s:=.sh (.int ((sz+sz * st:Nat):Int))) ?_) (ag (aL (s:=.own (.lst [.int (m0:Nat)])) ?_) h))))))))))
  ·refine kl (s1:=.sh bx) (s2:=.sh (.tup (mainR ds::bl.map cq))) rfl (ff (s1:=.own (.lst (mainR ds::bl.map cq))) (ah (s:=.own (.lst [mainR ds])) (t:=.sh (.lst (bl.map cq))) (ff (s1:=.sh (mainR ds)) (dW (s1:=.sh (.str "main")) (s2:=.sh (.int 0)) (s3:=.sh (.tup (ds.map plD))) rfl rfl (ff (s1:=.sh (.int ((sz:Int) - 1))) (ah rfl rfl (sub_int _ _)) hstl) rfl) rfl) rfl (Jl (xs:=[mainR ds]) (by rw[length_map,length_singleton];omega))) rfl)
  ·refine ah (s:=.sh (.int (sz:Nat))) (t:=.sh (.int ((sz:Int) * (st:Nat)))) rfl (ah rfl rfl (GA (by omega) (by omega))) ?_
   show cz (.int (sz:Nat)) (.int ((sz:Int) * (st:Nat)))=okI _;rw[add_int];congr 1
  ·refine ff (s1:=.sh (.int (m0:Nat))) (ah (s:=.sh (.int ((sz+sz * st+x13:Nat):Int))) (t:=.sh (.int 2)) (ah (s:=.sh (.int ((sz+sz * st:Nat):Int))) (t:=.sh (.int (x13:Nat))) rfl ((ah (bg rfl rfl (mx 13 (by decide) (by decide))) rfl (cw (by decide))).trans (by show okI (mixV ns 13 % 5)=_;rw[e13])) ?_) rfl ?_) rfl
   ·show cz (.int ((sz+sz * st:Nat):Int)) (.int (x13:Nat))=okI _;rw[add_int];rfl
   ·show uR (.int ((sz+sz * st+x13:Nat):Int)) (.int 2)=okI _;rw[sub_int,hm0];congr 1;omega
 have one:∀(most:Nat)(mo:D)(c10:Option S),((mo=.non/\(most:Int)=300)\/mo=.int (most:Nat))->most<=400->sz<=most->yc (S13 ns far (some (.sh (.int rk))) (some (.sh (.lst (bl.map cq)))) (some (.sh (.int (st:Nat)))) e5 (some (.sh (.int (sz:Nat)))) (some (.sh bx)) (some (.sh (prD bx ds bl))) (some (.sh (.int ((sz+sz * st:Nat):Int)))) c10 (some (.sh mo)) e12)=some (.next (S13 ns far (some (.sh (.int rk))) (some (.sh (.lst (bl.map cq)))) (some (.sh (.int (st:Nat)))) e5 (some (.sh (.int (sz:Nat)))) (some (.sh bx)) (some (.sh (prD bx ds bl))) (some (.sh (.int ((sz+sz * st:Nat):Int)))) c10 (some (.sh mo)) e12)):=λmost mo c10 hmo hm4 hszm=>by
  obtain⟨t1,t2⟩:=yu (bx:=bx) hP hbe hm4 (by omega)
  rw[hsz1,hst] at t1 t2;have h3:∀ρ:av,ρ[11]?=some (some (.sh mo))->eBin dIx (eLst [(eVar 11),(eC (.int 300))]) (au (f1 Ck) [(jw sf (eVar 11))]) ρ=okI (most:Nat):=λρ h=>by
   rcases hmo with⟨rfl,h3⟩|rfl
   ·rw[h3];exact ah (s:=.own (.lst [.non,.int 300])) (bg (s1:=.sh .non) (s2:=.sh (.int 300)) (bp h) rfl rfl) (ff (jC (bp h) rfl) IW) BF
   ·exact ah (s:=.own (.lst [.int (most:Nat),.int 300])) (bg (s1:=.sh (.int (most:Nat))) (s2:=.sh (.int 300)) (bp h) rfl rfl) (ff (jC (bp h) rfl) IX) BG
  by_cases q:sz+sz * st<=most
  ·rw[if_pos q] at t1;have l1:(msL c ds).length=sz:=by rw[rM];exact hsz1
   have l2:(allB c ds bl).length=sz * st:=by rw[vb,hsz1,hst]
   have a:=rR (most:=(most:Nat)) hmo (zy (most:=(most:Nat)) t1 (t2 q));exact gL (tW (dW (s1:=.sh _) (s2:=.sh (.int ((sz+sz * st:Nat):Int))) (s3:=.sh (.int (most:Nat))) (bg (s1:=.sh (prD bx ds bl)) (s2:=.sh mo) rfl rfl a) rfl (h3 _ rfl) (Ar (by omega) (by rw[length_map,length_append,jz,jz,l1,l2])))) rfl
  ·rw[if_neg q] at t1;have a:=ux (most:=(most:Nat)) hmo (Bi (most:=(most:Nat)) t1);exact gL (tW (dW (s1:=.sh _) (s2:=.sh (.int ((sz+sz * st:Nat):Int))) (s3:=.sh (.int (most:Nat))) (bg (s1:=.sh (prD bx ds bl)) (s2:=.sh mo) rfl rfl a) rfl (h3 _ rfl) (Dg (by omega)))) rfl
 refine aO rfl (steps _ ?_);cases far with
 |false=>
  exact ag (gL rfl rfl) (j4 (ag (gM (nG (s:=.sh (.lst [.int (m0:Nat)])) rfl rfl) (e8 rfl (one m0 (.int (m0:Nat)) (some (.sh (.lst [.int (m0:Nat)]))) (.inr rfl) (by omega) (by omega)) rfl)) (bN rfl)))
 |true=>
  exact ag (jX rfl (aL (s:=.own (.lst [.non,.int 400])) (bg rfl rfl rfl))) (j4 (ag (gM (nG (s:=.sh (.lst [.non,.int 400])) rfl rfl) (e8 rfl (one 300 .non (some (.sh (.lst [.non,.int 400]))) (.inl ⟨rfl,rfl⟩) (by decide) (by omega)) (e8 rfl (one 400 (.int ((400:Nat):Int)) (some (.sh (.lst [.non,.int 400]))) (.inr rfl) (by decide) (by omega)) rfl))) (bN rfl)))
end Bell
set_option maxHeartbeats 8000000
namespace Bell
open PySem PySem.Spec PyProof.Rows L2 L3
def top(i:Nat):Stmt:=PySem.Challenge.pw_bellnest_k74_mended_too_many.main.body.getD i (.Pass ⟨0,0,0,0⟩)
abbrev dg:Stmt:=top 24
def u5:List Str:=["program","row"]
def cf:List Str:=["program","row"]
abbrev fE:Stmt:=top 25
def zx:List Str:=["program","row","place"]
def dZ:List Str:=["program","row","place"]
abbrev dm:Stmt:=top 26
def ub:List Str:=["program","frame"]
def du:List Str:=["program","frame"]
abbrev bX:Stmt:=top 32
def nz:List Str:=["program","frame","place"]
def cG:List Str:=["program","frame"]
abbrev bE:Stmt:=top 22
def rG:List Str:=["boxes","deed","couples","number"]
def dB:List Str:=["boxes","deed"]
abbrev dn:Stmt:=top 34
def uc:List Str:=["program","pile","cells","top","broken","frame","place"]
def eO:List Str:=["program","pile","cells"]
abbrev gD:Stmt:=top 40
def Be:List Str:=["program","state"]
def iR:List Str:=["program","state"]
abbrev bJ:Stmt:=top 55
def ll:List Str:=["program","rows","found","number","row"]
def bY:List Str:=["program","rows"]
abbrev gC:Stmt:=fW (top 9) 0
def Bd:List Str:=["self","plan"]
def iQ:List Str:=["self","plan"]
abbrev fA:Stmt:=fW (top 13) 0
def zu:List Str:=["self","number"]
def gI:List Str:=["self","number"]
abbrev fC:Stmt:=top 20
def zw:List Str:=["boxes","deed","kind","first","second"]
def gK:List Str:=["boxes","deed"]
abbrev cO:Stmt:=fW (top 9) 4
def rL:List Str:=["self","turn","cells","hand"]
def dF:List Str:=["self","turn","cells","hand"]
abbrev cN:Stmt:=fW (top 9) 1
def rK:List Str:=["self"]
def dE:List Str:=["self"]
abbrev gz:Stmt:=top 31
def B9:List Str:=["program","pile","cells","top","deed","left","frame"]
def iN:List Str:=["program","pile","cells"]
abbrev gE:Stmt:=top 39
def Bf:List Str:=["program","state"]
def iS:List Str:=["program","state"]
abbrev dY:Stmt:=top 49
def wq:List Str:=["program","state","price","most","prices"]
def fJ:List Str:=["program","state","price","most","prices"]
abbrev dc:Stmt:=top 6
def u0:List Str:=["boxes","starts","box"]
def eI:List Str:=["boxes"]
abbrev jk:Stmt:=top 36
def E4:List Str:=["program"]
def kA:List Str:=["program"]
abbrev fB:Stmt:=top 30
def zv:List Str:=["pile","bell"]
def gJ:List Str:=["pile","bell"]
abbrev kW:Stmt:=top 38
def Gz:List Str:=["program","state","bell"]
def nk:List Str:=["program","state","bell"]
abbrev fw:Stmt:=top 27
def zr:List Str:=["program","row","place","places"]
def gG:List Str:=["program","row","place"]
abbrev fz:Stmt:=top 28
def zt:List Str:=["program","pile","word","frame"]
def gH:List Str:=["program","pile"]
abbrev dh:Stmt:=top 29
def u6:List Str:=["program","pile","bell","rows"]
def eJ:List Str:=["program","pile","bell"]
abbrev dX:Stmt:=top 37
def wm:List Str:=["program","state","bell"]
def fH:List Str:=["program","state"]
abbrev jj:Stmt:=top 50
def E3:List Str:=["program","many","most","prices","count","price","last","state","bell"]
def kz:List Str:=["program","many","most"]
abbrev gB:Stmt:=top 56
def Bc:List Str:=["program","many","most","rows","found"]
def iP:List Str:=["program","many","most"]
abbrev gA:Stmt:=top 59
def Ba:List Str:=["program","many","most","first","every","last","bars","ringings","bar","others","other"]
def iO:List Str:=["program","many","most"]
abbrev dk:Stmt:=top 64
def ua:List Str:=["_law_program","_law_most","_law_told","_law_refused","e"]
def eN:List Str:=["_law_program","_law_most"]
abbrev dj:Stmt:=top 61
def u9:List Str:=["_law_script","_law_k","_law_cell","_law_v"]
def dq:List Str:=["_law_script","_law_k"]
abbrev cM:Stmt:=top 62
def rJ:List Str:=["_law_script","_law_k","_law_a","_law_b"]
def dD:List Str:=["_law_script","_law_k"]
abbrev di:Stmt:=top 65
def u7:List Str:=["_law_found","_law_count","_law_most"]
def eM:List Str:=["_law_found","_law_count","_law_most"]
abbrev cL:Stmt:=top 63
def rH:List Str:=["_law_count","_law_places"]
def dC:List Str:=["_law_count"]
abbrev mW:Stmt:=top 66
def IG:List Str:=["_law_script","_law_far","_law_rank","_law_rows","_law_stills_here","_law_b","_law_size","_law_boxes","_law_program","_law_count","_law_asked_here","_law_most","_law_many"]
def xI:List Str:=["_law_script"]
abbrev CC:Addr:=345
abbrev PT:Addr:=341
def good:Pos->Option Str:=wK [(148,15),(152,15),(153,11)] "promise_of.<locals>.<lambda>"
def lam0:dQ:=IH (Ia ((ao bE).getD 0 (.Pass ⟨0,0,0,0⟩))) "promise_of.<locals>.<lambda>" "cells" []
def Bb:List Str:=["cells"]
def lams:Nat->Option dQ
 |0=>some lam0
 |_=>none
abbrev Γc(K:Frag)(cls:String->Addr):Ct:=HH K cls lams PT good
structure ix(mg:Str->Option Value):Prop where
 ValueError:mg "ValueError" = none
 enumerate:mg "enumerate" = none
 int:mg "int" = none
 isinstance:mg "isinstance" = none
 len:mg "len" = none
 list:mg "list" = none
 min:mg "min" = none
 range:mg "range" = none
 tuple:mg "tuple" = none
structure HC(K:Frag)(mg:Str->Option Value)(cls:String->Addr):Prop where
 L_places_of:bu K mg "places_of" dg cf
 L_deed_at:bu K mg "deed_at" fE dZ
 L_is_at_end:bu K mg "is_at_end" dm du
 L_none_watched:bu K mg "none_watched" bX cG
 L_promise_of:yk K mg "promise_of" bE dB CC
 L_broken_by:bu K mg "broken_by" dn eO
 L_breaks:bu K mg "breaks" gD iR
 L_cheapest_break:bu K mg "cheapest_break" bJ bY
 L_i_Deed:qA K mg cls "Deed" "Deed" "Deed.__init__" gC iQ
 L_i_Still:qA K mg cls "Still" "Still" "Still.__init__" fA gI
 L_deed_of:bu K mg "deed_of" fC gK
 L_Deed_after:qz K cls "after" "Deed.after" cO dF ["Still"]
 L_Deed_turns:qz K cls "turns" "Deed.turns" cN dE ["Still"]
 L_turned:bu K mg "turned" gz iN
 L_behind:bu K mg "behind" gE iS
 L_add_walk:bu K mg "add_walk" dY fJ
 L_starts_of:bu K mg "starts_of" dc eI
 L_begin:bu K mg "begin" jk kA
 L_entered:bu K mg "entered" fB gJ
 L_come:bu K mg "come" kW nk
 L_word_at:bu K mg "word_at" fw gG
 L_shut_by:bu K mg "shut_by" fz gH
 L_may_enter:bu K mg "may_enter" dh eJ
 L_may_come:bu K mg "may_come" dX fH
 L_table:ma K mg "table" jj kz (300)
 L_judged:ma K mg "judged" gB iP (300)
 L_mended:ma K mg "mended" gA iO (300)
 L_law_asked:bu K mg "_law_asked" dk eN
 L_law_mixed:bu K mg "_law_mixed" dj dq
 L_law_number:bu K mg "_law_number" cM dD
 L_law_right:bu K mg "_law_right" di eM
 L_law_stills:bu K mg "_law_stills" cL dC
 L_law:bu K mg "law" mW xI
 fld_plan:∀c∈["Still"],vj K (cls c)/\fQ K (cls c) "plan"
 x_TooMany:CD K mg cls "TooMany" "TooMany" "TooMany.__init__" "most" "most" (fW (top 46) 0)
 A_TooMany:md K mg cls "TooMany" "most" "BellError" ["TooMany"] ["NoBell","NoLine","NoNest","NoText"]
seal PySem.wpAny
section
variable{P:Program}{w:World}{K:Frag}{mg:Str->Option Value}{base:Heap}{cls:String->Addr}
theorem qL:ax u5 cf (a9 dg):=⟨rfl,rfl,rfl,by decide +kernel,rfl,by decide +kernel,by decide +kernel⟩
theorem rj(L:bu K mg "places_of" dg cf)(Z:ix mg)  : cY P w K mg base (Γc K cls) 1 "places_of" cf br:=
 bf (k:=0) L qL λf cdv A outer s H E hr=>
 (aj (aE (aA (ixd rfl) (aA (ixd rfl) (aA (ixd rfl) (a8 (pv 0)) aa) (a8 (pv 1))) aa)))
theorem vO:ax zx dZ (a9 fE):=⟨rfl,rfl,rfl,by decide +kernel,rfl,by decide +kernel,by decide +kernel⟩
theorem wj(L:bu K mg "deed_at" fE dZ)(Z:ix mg)(H_places_of:cY P w K mg base (Γc K cls) 1 "places_of" cf br):cY P w K mg base (Γc K cls) 2 "deed_at" dZ dw:=
 bf (k:=1) L vO λf cdv A outer s H E hr=>
 (aj (aE (aA (ixd rfl) (aA (ixd rfl) (b8 H_places_of (hr.mono (by first|decide|omega)) rfl (padN (a8 (pv 0)) (padN (a8 (pv 1)) ae))) (a8 (pv 2))) aa)))
theorem qN:ax ub du (a9 dm):=⟨rfl,rfl,rfl,by decide +kernel,rfl,by decide +kernel,by decide +kernel⟩
theorem rB(L:bu K mg "is_at_end" dm du)(Z:ix mg)(H_places_of:cY P w K mg base (Γc K cls) 1 "places_of" cf br):cY P w K mg base (Γc K cls) 2 "is_at_end" du bI:=
 bf (k:=1) L qN λf cdv A outer s H E hr=>
 (aj (aE (lh gq (aA (ixd rfl) (a8 (pv 1)) aa) (fk (ik rfl) rfl Z.len PySem.boot_len (dA (PD.look (b8 H_places_of (hr.mono (by first|decide|omega)) rfl (padN (a8 (pv 0)) (padS (aA (ixd rfl) (a8 (pv 1)) aa) ae)))) fm)))))
theorem ir:ax nz cG (a9 bX):=⟨rfl,rfl,rfl,by decide +kernel,rfl,by decide +kernel,by decide +kernel⟩
theorem mi(L:bu K mg "none_watched" bX cG)(Z:ix mg)(H_deed_at:cY P w K mg base (Γc K cls) 2 "deed_at" dZ dw)(H_places_of:cY P w K mg base (Γc K cls) 1 "places_of" cf br):cY P w K mg base (Γc K cls) 3 "none_watched" cG dJ:=
 bf (k:=2) L ir λf cdv A outer s H E hr=>
 (af (fG (i:=2) ir.nd rfl (tH (bw gq (aA (ixd rfl) (a8 (pv 1)) aa) aa) (aA (ixd rfl) (a8 (pv 1)) aa) (aG (bq rfl) (aA (ixd rfl) (a8 (pv 1)) aa) aa)))
 (af (bP (xj.pt (n0 (bw gq (a8 (pv 2)) (fk (ik rfl) rfl Z.len PySem.boot_len (dA (PD.look (b8 H_places_of (hr.mono (by first|decide|omega)) rfl (padN (a8 (pv 0)) (padS (aA (ixd rfl) (a8 (pv 1)) aa) ae)))) fm))) (qU (bw w6 (aA (ixd rfl) (b8 H_deed_at (hr.mono (by first|decide|omega)) rfl (padN (a8 (pv 0)) (padS (aA (ixd rfl) (a8 (pv 1)) aa) (padN (a8 (pv 2)) ae)))) aa) eV))))
 (aj (aE jV))
 aQ)
 (aj (aE (a8 (pv 2))))))
theorem oR:ax rG dB (a9 bE):=⟨rfl,rfl,rfl,by decide +kernel,rfl,by decide +kernel,by decide +kernel⟩
theorem D9:je Bb lam0:=Bw rfl rfl rfl (by decide +kernel) rfl (by decide +kernel) (by decide +kernel) (by decide +kernel)
theorem DU(Z:ix mg):m7 P w K mg base (Γc K cls) 1 0 C2:=
 GD (j:=0) (N:=Bb) (L:=lam0) D9 (λ_ _ _ _ _=>rfl) (EH rfl) EG λA outer s H f c clos hr=>
 tK
theorem DT(Z:ix mg):∀k F,HN k=some F->m7 P w K mg base (Γc K cls) 1 k F:=λk F e=>by
 unfold HN at e;split at e
 ·cases e;exact DU Z
 ·cases e
theorem Ej:∀k L,lams k=some L->L.fv.Nodup/\∀y∈L.fv,(a9 bE).names.lookup y=some .cell:=λk L e=>by
 unfold lams at e;split at e
 ·cases e;exact⟨by decide +kernel,by decide +kernel⟩
 ·cases e
theorem oW(L:yk K mg "promise_of" bE dB CC)(hC:PySem.W.CodeHd base CC PT)(hB:vf mg base)(Z:ix mg)  : cY P w K mg base (Γc K cls) 1 "promise_of" dB dI:=
 BV (k:=0) L oR Ej λf A outer s H E hr=>
 (G1 (bw (ze rfl) (aA (ixd rfl) (a8 (pv 1)) aa) (aM (cU eV (cU eV ae))) (by with_unfolding_all rfl))
 (Dp (L:=lam0) (P:=PT) (cc:=CC) (good:=good) rfl rfl (show ∀y∈lam0.fv,(a9 bE).names.lookup y=some .cell from by decide +kernel) Hb zK hC rfl hB (show("promise_of":Str) ++ ".<locals>." ++ "<lambda>" = lam0.qual from by decide +kernel) rfl rfl rfl)
 yT)
theorem dy:ax uc eO (a9 dn):=⟨rfl,rfl,rfl,by decide +kernel,rfl,by decide +kernel,by decide +kernel⟩
theorem rC(L:bu K mg "broken_by" dn eO)(Z:ix mg)(H_deed_at:cY P w K mg base (Γc K cls) 2 "deed_at" dZ dw)(H_is_at_end:cY P w K mg base (Γc K cls) 2 "is_at_end" du bI)(H_none_watched:cY P w K mg base (Γc K cls) 3 "none_watched" cG dJ)(H_promise_of:cY P w K mg base (Γc K cls) 1 "promise_of" dB dI)(H_lams:∀k F,HN k=some F->m7 P w K mg base (Γc K cls) 1 k F):cY P w K mg base (Γc K cls) 4 "broken_by" eO eU:=
 bf (k:=3) L dy λf cdv A outer s H E hr=>
 (af (fG (i:=3) dy.nd rfl (aA (ixd rfl) (a8 (pv 1)) lg))
 (af (bP (dz (b8 H_is_at_end (hr.mono (by first|decide|omega)) rfl (padN (a8 (pv 0)) (padN (a8 (pv 3)) ae))))
 (aj (aE (aM ae)))
 aQ)
 (af (fG (i:=4) dy.nd rfl (d7 ae))
 (af (fj PassesOwn.never rfl (jm rfl (ky rfl (a8 (pv 1)) kx (ku lg))) (DI dy.nd rfl)
 (af (fG (i:=6) dy.nd rfl (b8 H_none_watched (hr.mono (by first|decide|omega)) rfl (padN (a8 (pv 0)) (padN (a8 (pv 5)) ae))))
 (aj (bP (xj.pt (mC (tq (a8 (pv 6))) (kq (dz AN))))
 (aj (i0 (i:=4) (pv 4) (aM (padS (aA (ixd rfl) (a8 (pv 5)) aa) (padN (a8 (pv 6)) ae)))))
 aQ))))
 (af (bP (qV (dz (AS (T:=HN) (λk F e=>⟨1,hr.mono (by first|decide|omega),H_lams k F e⟩) (b8 H_promise_of (hr.mono (by first|decide|omega)) rfl (padS (aA (ixd rfl) (a8 (pv 0)) aa) (rf (b8 H_deed_at (hr.mono (by first|decide|omega)) rfl (padN (a8 (pv 0)) (padS (aA (ixd rfl) (a8 (pv 3)) aa) (padS (aA (ixd rfl) (a8 (pv 3)) aa) ae)))) ae))) (cF (a8 (pv 2)) ae))))
 (aj (i0 (i:=4) (pv 4) (aM (padS (aA (ixd rfl) (a8 (pv 3)) aa) (padS (aA (ixd rfl) (a8 (pv 3)) aa) ae)))))
 aQ)
 (cT (i:=4) (aj (aE (tF (kN rfl) rfl Z.tuple L3.j6 (padN (a8 (pv 4)) ae))))))))))
theorem yJ:ax Be iR (a9 gD):=⟨rfl,rfl,rfl,by decide +kernel,rfl,by decide +kernel,by decide +kernel⟩
theorem zk(L:bu K mg "breaks" gD iR)(Z:ix mg)(H_broken_by:cY P w K mg base (Γc K cls) 4 "broken_by" eO eU):cY P w K mg base (Γc K cls) 5 "breaks" iR cj:=
 bf (k:=4) L yJ λf cdv A outer s H E hr=>
 (aj (aE (b8 H_broken_by (hr.mono (by first|decide|omega)) rfl (padN (a8 (pv 0)) (padS (aA (ixd rfl) (a8 (pv 1)) aa) (padS (aA (ixd rfl) (a8 (pv 1)) aa) ae))))))
theorem cu:ax ll bY (a9 bJ):=⟨rfl,rfl,rfl,by decide +kernel,rfl,by decide +kernel,by decide +kernel⟩
theorem kC(L:bu K mg "cheapest_break" bJ bY)(Z:ix mg)(H_breaks:cY P w K mg base (Γc K cls) 5 "breaks" iR cj):cY P w K mg base (Γc K cls) 6 "cheapest_break" bY cQ:=
 bf (k:=5) L cu λf cdv A outer s H E hr=>
 (af (fG (i:=2) cu.nd rfl jV)
 (af (fj PassesOwn.never rfl (AD rfl rfl Z.enumerate (a8 (pv 1))) (AV rfl rfl cu.nd rfl rfl (by first|exact Or.inl rfl|exact Or.inr rfl) (by first|exact Or.inl rfl|exact Or.inr rfl))
 (aj (bP (xj.pt (mC (xj.pt (n0 (mD (a8 (pv 2))) (qU (bw w9 (aA (ixd rfl) (a8 (pv 4)) aa) (aA (ixd rfl) (aA (ixd rfl) (a8 (pv 1)) (a8 (pv 2))) aa))))) (kq (bw (DM (n:=1) rfl (rX hr)) (b8 H_breaks (hr.mono (by first|decide|omega)) rfl (padN (a8 (pv 0)) (padS (aA (ixd rfl) (a8 (pv 4)) aa) ae))) (aM ae)))))
 (aj (fG (i:=2) cu.nd rfl (a8 (pv 3))))
 aQ)))
 (aj (aE (a8 (pv 2))))))
theorem yI:ax Bd iQ (a9 gC):=⟨rfl,rfl,rfl,by decide +kernel,rfl,by decide +kernel,by decide +kernel⟩
theorem zj(L:qA K mg cls "Deed" "Deed" "Deed.__init__" gC iQ)(Z:ix mg)(H_fld_plan:∀c∈["Still"],vj K (cls c)/\fQ K (cls c) "plan"):oy P w K mg base (Γc K cls) 1 "Deed" "Deed" iQ wF:=
 pX (k:=0) L yI (by decide) λf cdv A outer s H E hr=>
 (t9 (FW (cs:=["Still"]) rfl H_fld_plan (pv 0) (a8 (pv 1)))
 xC)
theorem vM:ax zu gI (a9 fA):=⟨rfl,rfl,rfl,by decide +kernel,rfl,by decide +kernel,by decide +kernel⟩
theorem wd(L:qA K mg cls "Still" "Still" "Still.__init__" fA gI)(Z:ix mg)(H_i_Deed:oy P w K mg base (Γc K cls) 1 "Deed" "Deed" iQ wF):oy P w K mg base (Γc K cls) 2 "Still" "Still" gI rV:=
 pX (k:=1) L vM (by decide) λf cdv A outer s H E hr=>
 (t9 (Dj H_i_Deed (hr.mono (by decide)) rfl (pv 0) (oV (Gc (d7 (iz (aM (iz (aM ae) (iz (aM ae) ae))) ae)) (a8 (pv 1))) ae))
 xC)
theorem mV:ax zw gK (a9 fC):=⟨rfl,rfl,rfl,by decide +kernel,rfl,by decide +kernel,by decide +kernel⟩
theorem wg(L:bu K mg "deed_of" fC gK)(Z:ix mg)(H_i_Still:oy P w K mg base (Γc K cls) 2 "Still" "Still" gI rV):cY P w K mg base (Γc K cls) 4 "deed_of" gK jv:=
 bf (k:=3) L mV λf cdv A outer s H E hr=>
 (af (fG (i:=2) mV.nd rfl (aA (ixd rfl) (a8 (pv 1)) aa))
 (af (bP (bw gq (a8 (pv 2)) eV)
 (aj (aE (DE H_i_Still (hr.mono (by decide)) rfl (padS (aA (ixd rfl) (a8 (pv 1)) aa) ae))))
 aQ)
 n5))
theorem oU:ax rL dF (a9 cO):=⟨rfl,rfl,rfl,by decide +kernel,rfl,by decide +kernel,by decide +kernel⟩
theorem p0(L:qz K cls "after" "Deed.after" cO dF ["Still"])(Z:ix mg)  : ox P w K mg base (Γc K cls) 1 "after" dF dN ["Still"]:=
 pT (k:=0) L oU λf cdv A outer s H E hr=>
 (aj (aE (aM (padN (a8 (pv 2)) (padN (a8 (pv 3)) (oV (aG (bq rfl) (a8 (pv 1)) aa) ae))))))
theorem oS:ax rK dE (a9 cN):=⟨rfl,rfl,rfl,by decide +kernel,rfl,by decide +kernel,by decide +kernel⟩
theorem oZ(L:qz K cls "turns" "Deed.turns" cN dE ["Still"])(Z:ix mg)(H_fld_plan:∀c∈["Still"],vj K (cls c)/\fQ K (cls c) "plan"):ox P w K mg base (Γc K cls) 1 "turns" dE dM ["Still"]:=
 pT (k:=0) L oS λf cdv A outer s H E hr=>
 (aj (aE (fk (ik rfl) rfl Z.len PySem.boot_len (dA (PD.look (Ge (cs:=["Still"]) rfl H_fld_plan (a8 (pv 0)))) fm))))
theorem fu:ax B9 iN (a9 gz):=⟨rfl,rfl,rfl,by decide +kernel,rfl,by decide +kernel,by decide +kernel⟩
theorem zf(L:bu K mg "turned" gz iN)(Z:ix mg)(H_deed_at:cY P w K mg base (Γc K cls) 2 "deed_at" dZ dw)(H_deed_of:cY P w K mg base (Γc K cls) 4 "deed_of" gK jv)(H_is_at_end:cY P w K mg base (Γc K cls) 2 "is_at_end" du bI)(H_Deed_after:ox P w K mg base (Γc K cls) 1 "after" dF dN ["Still"])(H_Deed_turns:ox P w K mg base (Γc K cls) 1 "turns" dE dM ["Still"]):cY P w K mg base (Γc K cls) 5 "turned" iN gN:=
 bf (k:=4) L fu λf cdv A outer s H E hr=>
 (af (fG (i:=3) fu.nd rfl (aA (ixd rfl) (a8 (pv 1)) lg))
 (af (bP (dz (b8 H_is_at_end (hr.mono (by first|decide|omega)) rfl (padN (a8 (pv 0)) (padN (a8 (pv 3)) ae))))
 (aj (aE jV))
 aQ)
 (af (fG (i:=4) fu.nd rfl (b8 H_deed_of (hr.mono (by first|decide|omega)) rfl (padS (aA (ixd rfl) (a8 (pv 0)) aa) (rf (b8 H_deed_at (hr.mono (by first|decide|omega)) rfl (padN (a8 (pv 0)) (padS (aA (ixd rfl) (a8 (pv 3)) aa) (padS (aA (ixd rfl) (a8 (pv 3)) aa) ae)))) ae))))
 (cT (i:=4) (af (fG (i:=5) fu.nd rfl (DD (tb:=mP) (sL H_Deed_after (hr.mono (by decide)) xq) (a8 (pv 4)) (padS (aA (ixd rfl) (a8 (pv 3)) aa) (padN (a8 (pv 2)) (padS (aA (ixd rfl) (a8 (pv 3)) aa) ae)))))
 (cT (i:=4) (af (bP (bw w9 (aA (ixd rfl) (a8 (pv 5)) aa) (AO (tb:=iE) (sL H_Deed_turns (hr.mono (by decide)) xq) (a8 (pv 4))))
 (aj (fG (i:=6) fu.nd rfl (aM (padS (aA (ixd rfl) (a8 (pv 3)) aa) (padS (aA (ixd rfl) (a8 (pv 3)) aa) (padS (aA (ixd rfl) (a8 (pv 5)) aa) (padS (aA (ixd rfl) (a8 (pv 5)) aa) ae)))))))
 (aj (fG (i:=6) fu.nd rfl (aM (padS (aA (ixd rfl) (a8 (pv 3)) aa) (oV (aG (bq rfl) (aA (ixd rfl) (a8 (pv 3)) aa) aa) (cU aa (iz (aM ae) ae))))))))
 (af (bP (xj.pt (mC (bw nq (aA (ixd rfl) (a8 (pv 6)) aa) aa) (kq (dz (b8 H_is_at_end (hr.mono (by first|decide|omega)) rfl (padN (a8 (pv 0)) (padN (a8 (pv 6)) ae)))))))
 (aj (aE (aM (padS (ky rfl (a8 (pv 1)) kx (ku lg)) (padS (aA (ixd rfl) (a8 (pv 5)) aa) ae)))))
 aQ)
 (aj (aE (aM (oV (aG (bq rfl) (ky rfl (a8 (pv 1)) kx (ku lg)) (aM (padN (a8 (pv 6)) ae))) (padS (aA (ixd rfl) (a8 (pv 5)) aa) ae)))))))))))))
theorem yK:ax Bf iS (a9 gE):=⟨rfl,rfl,rfl,by decide +kernel,rfl,by decide +kernel,by decide +kernel⟩
theorem zl(L:bu K mg "behind" gE iS)(Z:ix mg)(H_turned:cY P w K mg base (Γc K cls) 5 "turned" iN gN):cY P w K mg base (Γc K cls) 6 "behind" iS ck:=
 bf (k:=5) L yK λf cdv A outer s H E hr=>
 (aj (aE (b8 H_turned (hr.mono (by first|decide|omega)) rfl (padN (a8 (pv 0)) (padS (aA (ixd rfl) (a8 (pv 1)) aa) (padS (aA (ixd rfl) (a8 (pv 1)) aa) ae))))))
theorem lP:ax wq fJ (a9 dY):=⟨rfl,rfl,rfl,by decide +kernel,rfl,by decide +kernel,by decide +kernel⟩
theorem tU(L:bu K mg "add_walk" dY fJ)(Z:ix mg)(H_behind:cY P w K mg base (Γc K cls) 6 "behind" iS ck)(H_x_TooMany:F6 P w K mg base (Γc K cls) "TooMany" "TooMany" "most"):F5 P w K mg base (Γc K cls) 7 "add_walk" fJ ek:=
 zM (k:=6) (j:=4) L lP (by decide) λf cdv A outer s H E hr=>
 (aj (pK (λ_=>5000) mv (xj.pt (mC (tq (a8 (pv 1))) (kq (tw (i:=4) rfl (rX hr) (pv 4) (a8 (pv 1))))))
 (af (bP (bw gq (xH (i:=4) rfl Z.len (pv 4)) (a8 (pv 3)))
 (aj (vT H_x_TooMany (hr.mono (by first|decide|omega)) rfl rfl rfl rfl rfl FG (a8 (pv 3))))
 aQ)
 (af (yQ (i:=4) rfl (rX hr) (pv 4) (a8 (pv 1)) (a8 (pv 2)))
 (aj (fG (i:=1) lP.nd rfl (tG (b8 H_behind (hr.mono (by first|decide|omega)) rfl (padN (a8 (pv 0)) (padN (a8 (pv 1)) ae))))))))))
theorem gX:ax u0 eI (a9 dc):=⟨rfl,rfl,rfl,by decide +kernel,rfl,by decide +kernel,by decide +kernel⟩
theorem ri(L:bu K mg "starts_of" dc eI)(Z:ix mg)  : cY P w K mg base (Γc K cls) 1 "starts_of" eI cI:=
 bf (k:=0) L gX λf cdv A outer s H E hr=>
 (af (fG (i:=1) gX.nd rfl (d7 ae))
 (af (fj PassesOwn.never rfl (jm rfl (a8 (pv 0))) (DI gX.nd rfl)
 (aj (vV (i:=1) rfl (pv 1) (aA (ixd rfl) (a8 (pv 2)) aa))))
 (cT (i:=1) (aj (aE (tF (kN rfl) rfl Z.tuple L3.j6 (padN (a8 (pv 1)) ae)))))))
theorem Am:ax E4 kA (a9 jk):=⟨rfl,rfl,rfl,by decide +kernel,rfl,by decide +kernel,by decide +kernel⟩
theorem B6(L:bu K mg "begin" jk kA)(Z:ix mg)(H_starts_of:cY P w K mg base (Γc K cls) 1 "starts_of" eI cI):cY P w K mg base (Γc K cls) 2 "begin" kA fq:=
 bf (k:=1) L Am λf cdv A outer s H E hr=>
 (aj (aE (aM (iz (aM (iz (aM (cU aa (cU aa (cU aa (iz (aM ae) ae))))) ae)) (rf (b8 H_starts_of (hr.mono (by first|decide|omega)) rfl (padS (aA (ixd rfl) (a8 (pv 0)) aa) ae)) ae)))))
theorem vN:ax zv gJ (a9 fB):=⟨rfl,rfl,rfl,by decide +kernel,rfl,by decide +kernel,by decide +kernel⟩
theorem we(L:bu K mg "entered" fB gJ)(Z:ix mg)  : cY P w K mg base (Γc K cls) 1 "entered" gJ lD:=
 bf (k:=0) L vN λf cdv A outer s H E hr=>
 (aj (aE (aG (bq rfl) (a8 (pv 0)) (aM (iz (aM (padN (a8 (pv 1)) (cU aa (cU aa (iz (aM ae) ae))))) ae)))))
theorem Dd:ax Gz nk (a9 kW):=⟨rfl,rfl,rfl,by decide +kernel,rfl,by decide +kernel,by decide +kernel⟩
theorem DV(L:bu K mg "come" kW nk)(Z:ix mg)(H_entered:cY P w K mg base (Γc K cls) 1 "entered" gJ lD):cY P w K mg base (Γc K cls) 2 "come" nk ib:=
 bf (k:=1) L Dd λf cdv A outer s H E hr=>
 (aj (aE (aM (rf (b8 H_entered (hr.mono (by first|decide|omega)) rfl (padS (aA (ixd rfl) (a8 (pv 1)) aa) (padN (a8 (pv 2)) ae))) (padS (aA (ixd rfl) (a8 (pv 1)) aa) ae)))))
theorem mU:ax zr gG (a9 fw):=⟨rfl,rfl,rfl,by decide +kernel,rfl,by decide +kernel,by decide +kernel⟩
theorem wb(L:bu K mg "word_at" fw gG)(Z:ix mg)(H_places_of:cY P w K mg base (Γc K cls) 1 "places_of" cf br):cY P w K mg base (Γc K cls) 2 "word_at" gG jt:=
 bf (k:=1) L mU λf cdv A outer s H E hr=>
 (af (fG (i:=3) mU.nd rfl (b8 H_places_of (hr.mono (by first|decide|omega)) rfl (padN (a8 (pv 0)) (padN (a8 (pv 1)) ae))))
 (aj (aE (tH (bw w9 (a8 (pv 2)) (fk (ik rfl) rfl Z.len PySem.boot_len (dA (jl (pv 3)) fm))) (aA (ixd rfl) (aA (ixd rfl) (a8 (pv 3)) (a8 (pv 2))) aa) aa))))
theorem gY:ax zt gH (a9 fz):=⟨rfl,rfl,rfl,by decide +kernel,rfl,by decide +kernel,by decide +kernel⟩
theorem wc(L:bu K mg "shut_by" fz gH)(Z:ix mg)(H_word_at:cY P w K mg base (Γc K cls) 2 "word_at" gG jt):cY P w K mg base (Γc K cls) 3 "shut_by" gH ju:=
 bf (k:=2) L gY λf cdv A outer s H E hr=>
 (af (fG (i:=2) gY.nd rfl aa)
 (af (fj PassesOwn.never rfl (jm rfl (a8 (pv 1))) (DI gY.nd rfl)
 (aj (fG (i:=2) gY.nd rfl (aG DO (a8 (pv 2)) (b8 H_word_at (hr.mono (by first|decide|omega)) rfl (padN (a8 (pv 0)) (padS (aA (ixd rfl) (a8 (pv 3)) aa) (padS (aA (ixd rfl) (a8 (pv 3)) aa) ae))))))))
 (aj (aE (a8 (pv 2))))))
theorem kn:ax u6 eJ (a9 dh):=⟨rfl,rfl,rfl,by decide +kernel,rfl,by decide +kernel,by decide +kernel⟩
theorem rm(L:bu K mg "may_enter" dh eJ)(Z:ix mg)(H_shut_by:cY P w K mg base (Γc K cls) 3 "shut_by" gH ju):cY P w K mg base (Γc K cls) 4 "may_enter" eJ eQ:=
 bf (k:=3) L kn λf cdv A outer s H E hr=>
 (af (fG (i:=3) kn.nd rfl (aA (ixd rfl) (a8 (pv 0)) aa))
 (aj (aE (AU (lh nq (aA (ixd rfl) (aA (ixd rfl) (a8 (pv 3)) (a8 (pv 2))) aa) (aA (ixd rfl) (aA (ixd rfl) (a8 (pv 3)) (aA (ixd rfl) (aA (ixd rfl) (a8 (pv 1)) lg) aa)) aa)) (AM (lh gq (aG B2 (aG DL (b8 H_shut_by (hr.mono (by first|decide|omega)) rfl (padN (a8 (pv 0)) (padN (a8 (pv 1)) ae))) (a8 (pv 2))) aa) aa))))))
theorem lO:ax wm fH (a9 dX):=⟨rfl,rfl,rfl,by decide +kernel,rfl,by decide +kernel,by decide +kernel⟩
theorem tQ(L:bu K mg "may_come" dX fH)(Z:ix mg)(H_may_enter:cY P w K mg base (Γc K cls) 4 "may_enter" eJ eQ):cY P w K mg base (Γc K cls) 5 "may_come" fH d9:=
 bf (k:=4) L lO λf cdv A outer s H E hr=>
 (aj (aE (yZ (js:=[2]) (vars:=[".0","bell"]) (zW 2) (by rfl) (by rfl) rfl (nh rfl Z.range aa (fk (ik rfl) rfl Z.len PySem.boot_len (dA (PD.look (aA (ixd rfl) (a8 (pv 0)) aa)) fm))) (λ_ _ _ _=>(DI lO.nd rfl)) (λ_ _ _ _=>(dz (b8 H_may_enter (hr.mono (by first|decide|omega)) rfl (padN (a8 (pv 0)) (padS (aA (ixd rfl) (a8 (pv 1)) aa) (padN (a8 (pv 2)) ae)))))) (λ_ _ _ _=>(a8 (pv 2))))))
theorem eG:ax E3 kz (a9 jj):=⟨rfl,rfl,rfl,by decide +kernel,rfl,by decide +kernel,by decide +kernel⟩
theorem B4(L:ma K mg "table" jj kz (300))(Z:ix mg)(H_add_walk:F5 P w K mg base (Γc K cls) 7 "add_walk" fJ ek)(H_begin:cY P w K mg base (Γc K cls) 2 "begin" kA fq)(H_come:cY P w K mg base (Γc K cls) 2 "come" nk ib)(H_may_come:cY P w K mg base (Γc K cls) 5 "may_come" fH d9):pq P w K mg base (Γc K cls) 8 "table" kz eF (300):=
 lC (k:=7) L eG λf cdv A outer s H E hr=>
 (af (yR (i:=3) eG.nd rfl (by first|exact Or.inl rfl|exact Or.inr rfl))
 (af (pL (i:=3) H_add_walk (hr.mono (by first|decide|omega)) rfl ki (eH (a8 (pv 0)) (eH (tG (b8 H_begin (hr.mono (by first|decide|omega)) rfl (padN (a8 (pv 0)) ae))) (eH aa (eH (a8 (pv 2)) (tO (pv 3) ae))))))
 (af (fG (i:=4) eG.nd rfl aa)
 (af (fj mv rfl (nh rfl Z.range aa (aG (bq rfl) (a8 (pv 1)) aa)) (DI eG.nd rfl)
 (af (fG (i:=6) eG.nd rfl (ky rfl (AQ (i:=3) rfl rfl Z.list (pv 3)) (ku (a8 (pv 4))) kx))
 (af (fG (i:=4) eG.nd rfl (xH (i:=3) rfl Z.len (pv 3)))
 (cT (i:=6) (aj (fj mv rfl (jm rfl (a8 (pv 6))) (DI eG.nd rfl)
 (aj (fj mv rfl (jm rfl (tG (b8 H_may_come (hr.mono (by first|decide|omega)) rfl (padN (a8 (pv 0)) (padN (a8 (pv 7)) ae))))) (DI eG.nd rfl)
 (aj (pL (i:=3) H_add_walk (hr.mono (by first|decide|omega)) rfl ki (eH (a8 (pv 0)) (eH (tG (b8 H_come (hr.mono (by first|decide|omega)) rfl (padN (a8 (pv 0)) (padN (a8 (pv 7)) (padN (a8 (pv 8)) ae))))) (eH (a8 (pv 5)) (eH (a8 (pv 2)) (tO (pv 3) ae)))))))))))))))
 (aj (aE (yY (i:=3) rfl rfl Z.list (pv 3))))))))
theorem kU:ax Bc iP (a9 gB):=⟨rfl,rfl,rfl,by decide +kernel,rfl,by decide +kernel,by decide +kernel⟩
theorem zi(L:ma K mg "judged" gB iP (300))(Z:ix mg)(H_cheapest_break:cY P w K mg base (Γc K cls) 6 "cheapest_break" bY cQ)(H_table:pq P w K mg base (Γc K cls) 8 "table" kz eF (300)):pq P w K mg base (Γc K cls) 9 "judged" iP j2 (300):=
 lC (k:=8) L kU λf cdv A outer s H E hr=>
 (af (fG (i:=3) kU.nd rfl (tJ H_table.all (hr.mono (by first|decide|omega)) rfl ki (padN (a8 (pv 0)) (padN (a8 (pv 1)) (padN (a8 (pv 2)) ae)))))
 (cT (i:=3) (af (fG (i:=4) kU.nd rfl (tG (b8 H_cheapest_break (hr.mono (by first|decide|omega)) rfl (padN (a8 (pv 0)) (padN (a8 (pv 3)) ae)))))
 (af (bP (mD (a8 (pv 4)))
 (cT (i:=3) (aj (aE (aM (cU jV (padN (a8 (pv 3)) ae))))))
 aQ)
 (aj yP)))))
theorem pE:ax Ba iO (a9 gA):=⟨rfl,rfl,rfl,by decide +kernel,rfl,by decide +kernel,by decide +kernel⟩
theorem zh(L:ma K mg "mended" gA iO (300))(Z:ix mg)(H_judged:pq P w K mg base (Γc K cls) 9 "judged" iP j2 (300)):pq P w K mg base (Γc K cls) 10 "mended" iO cJ (300):=
 lC (k:=9) L pE λf cdv A outer s H E hr=>
 (af (fG (i:=3) pE.nd rfl (tJ H_judged.all (hr.mono (by first|decide|omega)) rfl ki (padN (a8 (pv 0)) (padN (a8 (pv 1)) (padN (a8 (pv 2)) ae)))))
 (af (bP (mD (aA (ixd rfl) (a8 (pv 3)) aa))
 (aj (aE (aM (cU eV (cF (d7 ae) (padS (aA (ixd rfl) (a8 (pv 3)) aa) (cF (d7 ae) ae)))))))
 aQ)
 n5))
theorem cK:ax ua eN (a9 dk):=⟨rfl,rfl,rfl,by decide +kernel,rfl,by decide +kernel,by decide +kernel⟩
theorem rA(L:bu K mg "_law_asked" dk eN)(Z:ix mg)(H_A_TooMany:md K mg (Γc K cls).cls "TooMany" "most" "BellError" ["TooMany"] ["NoBell","NoLine","NoNest","NoText"])(H_mended:pq P w K mg base (Γc K cls) 10 "mended" iO cJ (300)):cY P w K mg base (Γc K cls) 11 "_law_asked" eN eS:=
 bf (k:=10) L cK λf cdv A outer s H E hr=>
 (af (fG (i:=2) cK.nd rfl jV)
 (af (fG (i:=3) cK.nd rfl jV)
 (vW (i:=2) (ie:=4) (iy:=3) H_A_TooMany rfl rfl rfl rfl (FV (mD (a8 (pv 1)))
 (Av (i:=2) H_mended (hr.mono (by first|decide|omega)) rfl (padN (a8 (pv 0)) (cU aa ae)) cK.nd rfl rfl)
 (Di (i:=2) H_mended.all (hr.mono (by first|decide|omega)) rfl (padN (a8 (pv 0)) (cU aa (padN (a8 (pv 1)) ae))) cK.nd rfl rfl)) cK.nd rfl rfl rfl (by decide) (by decide) rfl rfl
 (G3 (i:=2) (iy:=3) rfl (by first|exact .inl rfl|exact .inr rfl) rfl (by first|exact .inl rfl|exact .inr rfl) (AC (AF (Dx (iy:=3) H_A_TooMany (by decide) rfl (by first|exact .inl rfl|exact .inr rfl) rfl Z.isinstance rfl) (Dw (iy:=3) H_A_TooMany rfl (by first|exact .inl rfl|exact .inr rfl) rfl Z.isinstance rfl Z.ValueError)) (kZ qZ)
 (AC (AF (qY (iy:=3) H_A_TooMany (by decide) rfl (by first|exact .inl rfl|exact .inr rfl) rfl Z.isinstance rfl) (qY (iy:=3) H_A_TooMany (by decide) rfl (by first|exact .inl rfl|exact .inr rfl) rfl Z.isinstance rfl)) (kZ qZ)
 (AC (AF (qY (iy:=3) H_A_TooMany (by decide) rfl (by first|exact .inl rfl|exact .inr rfl) rfl Z.isinstance rfl) (qY (iy:=3) H_A_TooMany (by decide) rfl (by first|exact .inl rfl|exact .inr rfl) rfl Z.isinstance rfl)) (kZ qZ)
 (Ds (iy:=3) H_A_TooMany rfl (by first|exact .inl rfl|exact .inr rfl)))))))))
theorem fh:ax u9 dq (a9 dj):=⟨rfl,rfl,rfl,by decide +kernel,rfl,by decide +kernel,by decide +kernel⟩
theorem rq(L:bu K mg "_law_mixed" dj dq)(Z:ix mg)  : cY P w K mg base (Γc K cls) 1 "_law_mixed" dq aD:=
 bf (k:=0) L fh λf cdv A outer s H E hr=>
 (af (fG (i:=2) fh.nd rfl aa)
 (af (bP (bw nq (fk (ik rfl) rfl Z.len PySem.boot_len (dA (jl (pv 0)) fm)) aa)
 (aj (fG (i:=2) fh.nd rfl (aA (ixd rfl) (a8 (pv 0)) (aG bR (a8 (pv 1)) (fk (ik rfl) rfl Z.len PySem.boot_len (dA (jl (pv 0)) fm))))))
 aQ)
 (af (fG (i:=3) fh.nd rfl (aG bR (aG (bq rfl) (aG (bq rfl) (aG jn (aG bR (a8 (pv 2)) aa) aa) (aG jn (aG jn (a8 (pv 1)) (a8 (pv 1))) aa)) aa) aa))
 (aj (aE (aG bR (aG jn (a8 (pv 3)) (a8 (pv 3))) aa))))))
theorem gp:ax rJ dD (a9 cM):=⟨rfl,rfl,rfl,by decide +kernel,rfl,by decide +kernel,by decide +kernel⟩
theorem oY(L:bu K mg "_law_number" cM dD)(Z:ix mg)(H_law_mixed:cY P w K mg base (Γc K cls) 1 "_law_mixed" dq aD):cY P w K mg base (Γc K cls) 2 "_law_number" dD aV:=
 bf (k:=1) L gp λf cdv A outer s H E hr=>
 (af (fG (i:=2) gp.nd rfl (b8 H_law_mixed (hr.mono (by first|decide|omega)) rfl (padN (a8 (pv 0)) (padN (a8 (pv 1)) ae))))
 (af (fG (i:=3) gp.nd rfl (b8 H_law_mixed (hr.mono (by first|decide|omega)) rfl (padN (a8 (pv 0)) (oV (aG (bq rfl) (a8 (pv 1)) aa) ae))))
 (af (bP (bw gq (aG bR (a8 (pv 2)) aa) aa)
 (aj (aE (aG kB (aG bR (a8 (pv 3)) aa) aa)))
 aQ)
 (af (bP (bw gq (aG bR (a8 (pv 2)) aa) aa)
 (aj (aE (aA (ixd rfl) (d7 (oV (aG xJ aa aa) (K7 (DC (aG xJ aa aa)) ae))) (aG bR (a8 (pv 3)) aa))))
 aQ)
 (aj (aE (aG kB (aG bR (aG (bq rfl) (aG jn (a8 (pv 2)) aa) (a8 (pv 3))) aa) aa)))))))
theorem qM:ax u7 eM (a9 di):=⟨rfl,rfl,rfl,by decide +kernel,rfl,by decide +kernel,by decide +kernel⟩
theorem rn(L:bu K mg "_law_right" di eM)(Z:ix mg)  : cY P w K mg base (Γc K cls) 1 "_law_right" eM eR:=
 bf (k:=0) L qM λf cdv A outer s H E hr=>
 (af (bP (qV (dz (AR rfl (zG _) rfl Z.isinstance rfl Z.tuple L3.j6 (a8 (pv 0)))))
 (aj (aE tK))
 aQ)
 (af (bP (bw nq (a8 (pv 1)) (a8 (pv 2)))
 (aj (aE (lh (DN (n:=2) rfl (rX hr)) (a8 (pv 0)) (aM (cU eV (padN (a8 (pv 2)) ae))))))
 aQ)
 (af (bP (xj.pt (n0 (bw w6 (fk (ik rfl) rfl Z.len PySem.boot_len (dA (jl (pv 0)) fm)) aa) (n0 (bw w6 (aA (ixd rfl) (a8 (pv 0)) aa) eV) (n0 (bw (pP rfl (BM hr)) (aA (ixd rfl) (a8 (pv 0)) aa) (d7 ae)) (qU (bw (pP rfl (BM hr)) (aA (ixd rfl) (a8 (pv 0)) aa) (d7 ae)))))))
 (aj (aE tK))
 aQ)
 (aj (aE (AU (AR rfl (BC _) rfl Z.isinstance rfl Z.list L3.EN (aA (ixd rfl) (a8 (pv 0)) aa)) (AM (lh gq (fk (ik rfl) rfl Z.len PySem.boot_len (dA (PD.look (aA (ixd rfl) (a8 (pv 0)) aa)) fm)) (a8 (pv 1))))))))))
theorem gn:ax rH dC (a9 cL):=⟨rfl,rfl,rfl,by decide +kernel,rfl,by decide +kernel,by decide +kernel⟩
theorem oX(L:bu K mg "_law_stills" cL dC)(Z:ix mg)  : cY P w K mg base (Γc K cls) 1 "_law_stills" dC fo:=
 bf (k:=0) L gn λf cdv A outer s H E hr=>
 (af (fG (i:=1) gn.nd rfl (d7 ae))
 (af (pK (λ_=>5000) PassesOwn.never (bw nq (a8 (pv 0)) aa)
 (af (i0 (i:=1) (pv 1) (aM (iz (aM (cU eV (rf (Gf (EK rfl) rfl Z.min L3.Hf (cU aa (padN (a8 (pv 0)) ae))) ae))) (cU aa ae))))
 (aj (fG (i:=0) gn.nd rfl (aG kB (a8 (pv 0)) aa)))))
 (cT (i:=1) (aj (aE (tF (kN rfl) rfl Z.tuple L3.j6 (padN (a8 (pv 1)) ae)))))))
theorem cE:ax IG xI (a9 mW):=⟨rfl,rfl,rfl,by decide +kernel,rfl,by decide +kernel,by decide +kernel⟩
theorem Gu{f:Addr}{fd:FuncData}(L:sC K "law" "law" mW f fd)(Z:ix mg)(H_law_asked:cY P w K mg base (Γc K cls) 11 "_law_asked" eN eS)(H_law_mixed:cY P w K mg base (Γc K cls) 1 "_law_mixed" dq aD)(H_law_number:cY P w K mg base (Γc K cls) 2 "_law_number" dD aV)(H_law_right:cY P w K mg base (Γc K cls) 1 "_law_right" eM eR)(H_law_stills:cY P w K mg base (Γc K cls) 1 "_law_stills" dC fo):bV P w K mg base jg 12 f fd xI (A0 (Γc K cls) W0 xS):=
 GR (k:=11) L cE λcdv A outer s H E hr=>
 (af (fG (i:=1) cE.nd rfl (lh gq (aG bR (b8 H_law_mixed (hr.mono (by first|decide|omega)) rfl (padN (a8 (pv 0)) (cU aa ae))) aa) aa))
 (af (fG (i:=2) cE.nd rfl (aG (bq rfl) aa (aG bR (b8 H_law_mixed (hr.mono (by first|decide|omega)) rfl (padN (a8 (pv 0)) (cU aa ae))) aa)))
 (af (fG (i:=3) cE.nd rfl (d7 ae))
 (af (fG (i:=4) cE.nd rfl aa)
 (af (fj PassesOwn.never rfl (vZ rfl Z.range (aG (bq rfl) aa (aG bR (b8 H_law_mixed (hr.mono (by first|decide|omega)) rfl (padN (a8 (pv 0)) (cU aa ae))) aa))) (DI cE.nd rfl)
 (af (fG (i:=12) cE.nd rfl (aG (bq rfl) aa (aG bR (b8 H_law_mixed (hr.mono (by first|decide|omega)) rfl (padN (a8 (pv 0)) (oV (aG (bq rfl) aa (a8 (pv 5))) ae))) aa)))
 (af (bP (dz (a8 (pv 1)))
 (aj (fG (i:=12) cE.nd rfl aa))
 aQ)
 (af (fG (i:=4) cE.nd rfl (aG (bq rfl) (a8 (pv 4)) (a8 (pv 12))))
 (aj (i0 (i:=3) (pv 3) (aM (padS (aA (ixd rfl) eV (a8 (pv 5))) (padN (a8 (pv 2)) (iz (aM (iz (aM (iz (aM (cU eV (padN (a8 (pv 12)) ae))) (cU aa ae))) ae)) ae))))))))))
 (af (fG (i:=6) cE.nd rfl (aG (bq rfl) aa (aG bR (b8 H_law_mixed (hr.mono (by first|decide|omega)) rfl (padN (a8 (pv 0)) (cU aa ae))) aa)))
 (af (bP (dz (a8 (pv 1)))
 (aj (fG (i:=6) cE.nd rfl (aG (bq rfl) (aG AZ aa (aG (bq rfl) aa (a8 (pv 4)))) (aG bR (b8 H_law_mixed (hr.mono (by first|decide|omega)) rfl (padN (a8 (pv 0)) (cU aa ae))) aa))))
 aQ)
 (af (fG (i:=7) cE.nd rfl (aA (ixd rfl) (d7 (iz (aM ae) (iz (aM (iz (aM (cU eV (iz (aM (rf (b8 H_law_number (hr.mono (by first|decide|omega)) rfl (padN (a8 (pv 0)) (cU aa ae))) ae)) ae))) ae)) ae))) (aG bR (b8 H_law_mixed (hr.mono (by first|decide|omega)) rfl (padN (a8 (pv 0)) (cU aa ae))) aa)))
 (cT (i:=3) (af (fG (i:=8) cE.nd rfl (aM (padN (a8 (pv 7)) (rf (tF (kN rfl) rfl Z.tuple L3.j6 (oV (aG (bq rfl) (d7 (iz (aM (cU eV (cU aa (rf (b8 H_law_stills (hr.mono (by first|decide|omega)) rfl (oV (aG kB (a8 (pv 6)) aa) ae)) ae)))) ae)) (a8 (pv 3))) ae)) ae))))
 (af (fG (i:=9) cE.nd rfl (aG (bq rfl) (a8 (pv 6)) (aG jn (a8 (pv 6)) (a8 (pv 4)))))
 (af (fG (i:=10) cE.nd rfl (d7 (oV (aG kB (aG (bq rfl) (a8 (pv 9)) (aG bR (b8 H_law_mixed (hr.mono (by first|decide|omega)) rfl (padN (a8 (pv 0)) (cU aa ae))) aa)) aa) ae)))
 (af (bP (dz (a8 (pv 1)))
 (aj (fG (i:=10) cE.nd rfl (d7 (cU jV (cU aa ae)))))
 aQ)
 (cT (i:=10) (af (fj PassesOwn.never rfl (jm rfl (a8 (pv 10))) (DI cE.nd rfl)
 (aj (bP (qV (dz (b8 H_law_right (hr.mono (by first|decide|omega)) rfl (rf (b8 H_law_asked (hr.mono (by first|decide|omega)) rfl (padN (a8 (pv 8)) (padN (a8 (pv 11)) ae))) (padN (a8 (pv 9)) (padS (aA (ixd rfl) (d7 (padN (a8 (pv 11)) (cU aa ae))) (tF Hd rfl Z.int L3.Hg (cF (Gd (a8 (pv 11))) ae))) ae))))))
 (aj (aE tK))
 aQ)))
 (aj (aE tK)))))))))))))))))
theorem Gv(T:HC K mg cls)(hC:PySem.W.CodeHd base CC PT)(hB:vf mg base)(Z:ix mg){f:Addr}{fd:FuncData}(L:sC K "law" "law" mW f fd):bV P w K mg base jg 12 f fd xI (A0 (Γc K cls) W0 xS):=by
 have h_lams:=@DT P w K mg base cls Z;have h_x_TooMany:F6 P w K mg base (Γc K cls) "TooMany" "TooMany" "most" := C7 T.x_TooMany ⟨rfl,rfl,rfl,by decide +kernel,rfl,by decide +kernel,by decide +kernel⟩ rfl (by first|exact .inl rfl|exact .inr rfl) (by first|exact .inl rfl|exact .inr rfl) (by decide) (by decide) (λ_=>rfl)
 have h_places_of:=@rj P w K mg base cls T.L_places_of Z;have h_deed_at:=@wj P w K mg base cls T.L_deed_at Z h_places_of;have h_is_at_end:=@rB P w K mg base cls T.L_is_at_end Z h_places_of;have h_none_watched:=@mi P w K mg base cls T.L_none_watched Z h_deed_at h_places_of;have h_promise_of:=@oW P w K mg base cls T.L_promise_of hC hB Z;have h_broken_by:=@rC P w K mg base cls T.L_broken_by Z h_deed_at h_is_at_end h_none_watched h_promise_of h_lams;have h_breaks:=@zk P w K mg base cls T.L_breaks Z h_broken_by;have h_cheapest_break:=@kC P w K mg base cls T.L_cheapest_break Z h_breaks;have h_i_Deed:=@zj P w K mg base cls T.L_i_Deed Z T.fld_plan;have h_i_Still:=@wd P w K mg base cls T.L_i_Still Z h_i_Deed;have h_deed_of:=@wg P w K mg base cls T.L_deed_of Z h_i_Still;have h_Deed_after:=@p0 P w K mg base cls T.L_Deed_after Z;have h_Deed_turns:=@oZ P w K mg base cls T.L_Deed_turns Z T.fld_plan;have h_turned:=@zf P w K mg base cls T.L_turned Z h_deed_at h_deed_of h_is_at_end h_Deed_after h_Deed_turns;have h_behind:=@zl P w K mg base cls T.L_behind Z h_turned;have h_add_walk:=@tU P w K mg base cls T.L_add_walk Z h_behind h_x_TooMany;have h_starts_of:=@ri P w K mg base cls T.L_starts_of Z;have h_begin:=@B6 P w K mg base cls T.L_begin Z h_starts_of;have h_entered:=@we P w K mg base cls T.L_entered Z;have h_come:=@DV P w K mg base cls T.L_come Z h_entered;have h_word_at:=@wb P w K mg base cls T.L_word_at Z h_places_of;have h_shut_by:=@wc P w K mg base cls T.L_shut_by Z h_word_at;have h_may_enter:=@rm P w K mg base cls T.L_may_enter Z h_shut_by;have h_may_come:=@tQ P w K mg base cls T.L_may_come Z h_may_enter;have h_table:=@B4 P w K mg base cls T.L_table Z h_add_walk h_begin h_come h_may_come;have h_judged:=@zi P w K mg base cls T.L_judged Z h_cheapest_break h_table;have h_mended:=@zh P w K mg base cls T.L_mended Z h_judged;have h_law_asked:=@rA P w K mg base cls T.L_law_asked Z T.A_TooMany h_mended;have h_law_mixed:=@rq P w K mg base cls T.L_law_mixed Z;have h_law_number:=@oY P w K mg base cls T.L_law_number Z h_law_mixed;have h_law_right:=@rn P w K mg base cls T.L_law_right Z;have h_law_stills:=@oX P w K mg base cls T.L_law_stills Z;exact Gu L Z h_law_asked h_law_mixed h_law_number h_law_right h_law_stills
end
unseal PySem.wpAny
theorem walk{l:PySem.W.OpenLaw}{q:Program}{loose:List Str}{XP:(Str->Option Value)->Heap->Prop}{YP:World->Heap->Prop}{d:DefRec}{K:Params->Frag}(T:∀ns:List Int,ns.length<=63->xS [.lst (ns.map D.int)]=some (.ok (.sh (.bl true)))){dP:DefRec}(hrec:(recsOf q).find? (λe=>e.name == ("promise_of":Str))=some dP)(htab:∀w:World,PySem.W.tabIn (K w.params) "promise_of" = some (CC,PT))(hno:∀w:World,PySem.W.noTabs (K w.params)=true)(hn:l.most=some 63)(hdf:d.params.defaults=[])(hdn:d.name = "law")
  (hY:∀(w:World)(h:Heap),YP w h->(K w.params).In h) (F:∀(w:World)(mg:Str->Option Value)(h:Heap),(K w.params).In h->h.Ns mainGlobals mg->(∃cls,HC (K w.params) mg cls)/\ix mg):PySem.W.WalkO q loose XP YP l.row.toRowW d [] (λf vs=>PySem.call f vs):=
 zE (y := "promise_of") (cc:=CC) (PT:=PT) (good:=good) (k:=12) (x := "_law_script") (by decide) hn hdf hrec htab hno hY λw mg fa h KX G hm=>by
  obtain⟨⟨cls,T1⟩,Z⟩:=F w mg h KX G;obtain⟨f,fd,Fl,hm2,_⟩:=T1.L_law.ex;rw[hdn,hm2] at hm;cases hm;obtain⟨oc,od,kV,doc,pm,an,cdv,ct,osl,e,_⟩:=id Fl.ex;exact⟨fd,λs u=>by rw[e];exact .of_eq rfl,λbase hC hB=>Eb (Gv (cls:=cls) T1 hC hB Z Fl) rfl rfl T⟩
set_option maxHeartbeats 0 in
theorem defs_mk{K:Frag}{h:Heap}{mg:Str->Option Value}(X:K.In h)(G:h.Ns mainGlobals mg)
  {C0 C1:Addr}
  {g0:Addr} {oc0:Value} {od0 an0:Option Addr} {sl0:Array (Option Value)} {kV0 dc0 pm0 cd0 ct0:Value}
  {g1:Addr} {oc1:Value} {od1 an1:Option Addr} {sl1:Array (Option Value)} {kV1 dc1 pm1 cd1 ct1:Value}
  {g2:Addr} {oc2:Value} {od2 an2:Option Addr} {sl2:Array (Option Value)} {kV2 dc2 pm2 cd2 ct2:Value}
  {g3:Addr} {oc3:Value} {od3 an3:Option Addr} {sl3:Array (Option Value)} {kV3 dc3 pm3 cd3 ct3:Value}
  {g4:Addr} {oc4:Value} {od4 an4:Option Addr} {sl4:Array (Option Value)} {kV4 dc4 pm4 ct4:Value}
  {g5:Addr} {oc5:Value} {od5 an5:Option Addr} {sl5:Array (Option Value)} {kV5 dc5 pm5 cd5 ct5:Value}
  {g6:Addr} {oc6:Value} {od6 an6:Option Addr} {sl6:Array (Option Value)} {kV6 dc6 pm6 cd6 ct6:Value}
  {g7:Addr} {oc7:Value} {od7 an7:Option Addr} {sl7:Array (Option Value)} {kV7 dc7 pm7 cd7 ct7:Value}
  {g8:Addr} {oc8:Value} {od8 an8:Option Addr} {sl8:Array (Option Value)} {kV8 dc8 pm8 cd8 ct8:Value}
  {g9:Addr} {oc9:Value} {od9 an9:Option Addr} {sl9:Array (Option Value)} {kV9 dc9 pm9 cd9 ct9:Value}
  {g10:Addr} {oc10:Value} {od10 an10:Option Addr} {sl10:Array (Option Value)} {kV10 dc10 pm10 cd10 ct10:Value}
  {g11:Addr} {oc11:Value} {od11 an11:Option Addr} {sl11:Array (Option Value)} {kV11 dc11 pm11 cd11 ct11:Value}
  {g12:Addr} {oc12:Value} {od12 an12:Option Addr} {sl12:Array (Option Value)} {kV12 dc12 pm12 cd12 ct12:Value}
  {g13:Addr} {oc13:Value} {od13 an13:Option Addr} {sl13:Array (Option Value)} {kV13 dc13 pm13 cd13 ct13:Value}
  {g14:Addr} {oc14:Value} {od14 an14:Option Addr} {sl14:Array (Option Value)} {kV14 dc14 pm14 cd14 ct14:Value}
  {g15:Addr} {oc15:Value} {od15 an15:Option Addr} {sl15:Array (Option Value)} {kV15 dc15 pm15 cd15 ct15:Value}
  {g16:Addr} {oc16:Value} {od16 an16:Option Addr} {sl16:Array (Option Value)} {kV16 dc16 pm16 cd16 ct16:Value}
  {g17:Addr} {oc17:Value} {od17 an17:Option Addr} {sl17:Array (Option Value)} {kV17 dc17 pm17 cd17 ct17:Value}
  {g18:Addr} {oc18:Value} {od18 an18:Option Addr} {sl18:Array (Option Value)} {kV18 dc18 pm18 cd18 ct18:Value}
  {g19:Addr} {oc19:Value} {od19 an19:Option Addr} {sl19:Array (Option Value)} {kV19 dc19 pm19 cd19 ct19:Value}
  {g20:Addr} {oc20:Value} {od20 an20:Option Addr} {sl20:Array (Option Value)} {kV20 dc20 pm20 cd20 ct20:Value}
  {g21:Addr} {oc21:Value} {od21 an21:Option Addr} {sl21:Array (Option Value)} {kV21 dc21 pm21 cd21 ct21:Value}
  {g22:Addr} {oc22:Value} {od22 an22:Option Addr} {sl22:Array (Option Value)} {kV22 dc22 pm22 cd22 ct22:Value}
  {g23:Addr} {oc23:Value} {od23 an23:Option Addr} {sl23:Array (Option Value)} {kV23 dc23 pm23 cd23 ct23:Value}
  {g24:Addr} {oc24:Value} {od24 an24:Option Addr} {sl24:Array (Option Value)} {kV24 dc24 pm24 cd24 ct24:Value}
  {td24:Addr} {tc24:Value} {te24:Option Addr} {tn24:Nat} {tt24:Tok} {ts24:Array (Option Value)}
  {g25:Addr} {oc25:Value} {od25 an25:Option Addr} {sl25:Array (Option Value)} {kV25 dc25 pm25 cd25 ct25:Value}
  {td25:Addr} {tc25:Value} {te25:Option Addr} {tn25:Nat} {tt25:Tok} {ts25:Array (Option Value)}
  {g26:Addr} {oc26:Value} {od26 an26:Option Addr} {sl26:Array (Option Value)} {kV26 dc26 pm26 cd26 ct26:Value}
  {td26:Addr} {tc26:Value} {te26:Option Addr} {tn26:Nat} {tt26:Tok} {ts26:Array (Option Value)}
  {g27:Addr} {oc27:Value} {od27 an27:Option Addr} {sl27:Array (Option Value)} {kV27 dc27 pm27 cd27 ct27:Value}
  {g28:Addr} {oc28:Value} {od28 an28:Option Addr} {sl28:Array (Option Value)} {kV28 dc28 pm28 cd28 ct28:Value}
  {g29:Addr} {oc29:Value} {od29 an29:Option Addr} {sl29:Array (Option Value)} {kV29 dc29 pm29 cd29 ct29:Value}
  {g30:Addr} {oc30:Value} {od30 an30:Option Addr} {sl30:Array (Option Value)} {kV30 dc30 pm30 cd30 ct30:Value}
  {g31:Addr} {oc31:Value} {od31 an31:Option Addr} {sl31:Array (Option Value)} {kV31 dc31 pm31 cd31 ct31:Value}
  {g32:Addr} {oc32:Value} {od32 an32:Option Addr} {sl32:Array (Option Value)} {kV32 dc32 pm32 cd32 ct32:Value}
  {X0 I0:Addr} {xc0:Value} {xd0 xa0:Option Addr} {xl0:Array (Option Value)} {xk0 xo0 xp0 xe0 xt0:Value}
  {Y_BellError:Addr}
  {Y_TooMany:Addr}
  {Y_NoBell:Addr}
  {Y_NoLine:Addr}
  {Y_NoNest:Addr}
  {Y_NoText:Addr}
  (ca0:PySem.W.nsIn K mainGlobals "Deed" = some (some (.ref C0)))
  (cp0:plainGet K C0 Str.empty=true)
  (ch0:PySem.W.hasDictIn K C0=true)
  (co0:plainOver K C0=true)
  (cs0:PySem.W.findIn K (.ref C0) "__setattr__" = some (some (.builtin "object.__setattr__")))
  (ca1:PySem.W.nsIn K mainGlobals "Still" = some (some (.ref C1)))
  (cp1:plainGet K C1 Str.empty=true)
  (ch1:PySem.W.hasDictIn K C1=true)
  (co1:plainOver K C1=true)
  (cs1:PySem.W.findIn K (.ref C1) "__setattr__" = some (some (.builtin "object.__setattr__")))
  (a0:PySem.W.nsIn K mainGlobals "places_of" = some (some (.ref g0)))
  (l0:K.lookup g0=some ⟨oc0,od0,.func (fnOf "places_of" "places_of" (aw dg) (ao dg) (a9 dg) .none kV0 dc0 pm0 an0 cd0 ct0),sl0⟩)
  (c0:codeIn K cd0 "places_of" = true)
  (k0:PySem.W.keepIn K (.ref g0)=true)
  (a1:PySem.W.nsIn K mainGlobals "deed_at" = some (some (.ref g1)))
  (l1:K.lookup g1=some ⟨oc1,od1,.func (fnOf "deed_at" "deed_at" (aw fE) (ao fE) (a9 fE) .none kV1 dc1 pm1 an1 cd1 ct1),sl1⟩)
  (c1:codeIn K cd1 "deed_at" = true)
  (k1:PySem.W.keepIn K (.ref g1)=true)
  (a2:PySem.W.nsIn K mainGlobals "is_at_end" = some (some (.ref g2)))
  (l2:K.lookup g2=some ⟨oc2,od2,.func (fnOf "is_at_end" "is_at_end" (aw dm) (ao dm) (a9 dm) .none kV2 dc2 pm2 an2 cd2 ct2),sl2⟩)
  (c2:codeIn K cd2 "is_at_end" = true)
  (k2:PySem.W.keepIn K (.ref g2)=true)
  (a3:PySem.W.nsIn K mainGlobals "none_watched" = some (some (.ref g3)))
  (l3:K.lookup g3=some ⟨oc3,od3,.func (fnOf "none_watched" "none_watched" (aw bX) (ao bX) (a9 bX) .none kV3 dc3 pm3 an3 cd3 ct3),sl3⟩)
  (c3:codeIn K cd3 "none_watched" = true)
  (k3:PySem.W.keepIn K (.ref g3)=true)
  (a4:PySem.W.nsIn K mainGlobals "promise_of" = some (some (.ref g4)))
  (l4:K.lookup g4=some ⟨oc4,od4,.func (fnOf "promise_of" "promise_of" (aw bE) (ao bE) (a9 bE) .none kV4 dc4 pm4 an4 (.ref CC) ct4),sl4⟩)
  (c4:codeIn K (.ref CC) "promise_of" = true)
  (k4:PySem.W.keepIn K (.ref g4)=true)
  (a5:PySem.W.nsIn K mainGlobals "broken_by" = some (some (.ref g5)))
  (l5:K.lookup g5=some ⟨oc5,od5,.func (fnOf "broken_by" "broken_by" (aw dn) (ao dn) (a9 dn) .none kV5 dc5 pm5 an5 cd5 ct5),sl5⟩)
  (c5:codeIn K cd5 "broken_by" = true)
  (k5:PySem.W.keepIn K (.ref g5)=true)
  (a6:PySem.W.nsIn K mainGlobals "breaks" = some (some (.ref g6)))
  (l6:K.lookup g6=some ⟨oc6,od6,.func (fnOf "breaks" "breaks" (aw gD) (ao gD) (a9 gD) .none kV6 dc6 pm6 an6 cd6 ct6),sl6⟩)
  (c6:codeIn K cd6 "breaks" = true)
  (k6:PySem.W.keepIn K (.ref g6)=true)
  (a7:PySem.W.nsIn K mainGlobals "cheapest_break" = some (some (.ref g7)))
  (l7:K.lookup g7=some ⟨oc7,od7,.func (fnOf "cheapest_break" "cheapest_break" (aw bJ) (ao bJ) (a9 bJ) .none kV7 dc7 pm7 an7 cd7 ct7),sl7⟩)
  (c7:codeIn K cd7 "cheapest_break" = true)
  (k7:PySem.W.keepIn K (.ref g7)=true)
  (f8:PySem.W.findIn K (.ref C0) "__init__" = some (some (.ref g8)))
  (l8:K.lookup g8=some ⟨oc8,od8,.func (fnOf "__init__" "Deed.__init__" (aw gC) (ao gC) (a9 gC) .none kV8 dc8 pm8 an8 cd8 ct8),sl8⟩)
  (c8:codeIn K cd8 "Deed.__init__" = true)
  (k8:PySem.W.keepIn K (.ref g8)=true)
  (i8:isFn K (.ref g8)=true)
  (m8:makesIn K C0=true)
  (n8:PySem.W.keepIn K (.ref C0)=true)
  (o8:findCls K (.ref C0) (.type "type") "__init__" = some (.val (.ref g8)))
  (q8:PySem.W.specialIn K (.ref C0) "__getattribute__" = some (some (.builtin "type.__getattribute__")))
  (r8:readsIn K C0 (.type "type")=true)
  (f9:PySem.W.findIn K (.ref C1) "__init__" = some (some (.ref g9)))
  (l9:K.lookup g9=some ⟨oc9,od9,.func (fnOf "__init__" "Still.__init__" (aw fA) (ao fA) (a9 fA) .none kV9 dc9 pm9 an9 cd9 ct9),sl9⟩)
  (c9:codeIn K cd9 "Still.__init__" = true)
  (k9:PySem.W.keepIn K (.ref g9)=true)
  (i9:isFn K (.ref g9)=true)
  (m9:makesIn K C1=true)
  (n9:PySem.W.keepIn K (.ref C1)=true)
  (o9:findCls K (.ref C1) (.type "type") "__init__" = some (.val (.ref g9)))
  (q9:PySem.W.specialIn K (.ref C1) "__getattribute__" = some (some (.builtin "type.__getattribute__")))
  (r9:readsIn K C1 (.type "type")=true)
  (a10:PySem.W.nsIn K mainGlobals "deed_of" = some (some (.ref g10)))
  (l10:K.lookup g10=some ⟨oc10,od10,.func (fnOf "deed_of" "deed_of" (aw fC) (ao fC) (a9 fC) .none kV10 dc10 pm10 an10 cd10 ct10),sl10⟩)
  (c10:codeIn K cd10 "deed_of" = true)
  (k10:PySem.W.keepIn K (.ref g10)=true)
  (f11_1:PySem.W.findIn K (.ref C1) "after" = some (some (.ref g11)))
  (l11:K.lookup g11=some ⟨oc11,od11,.func (fnOf "after" "Deed.after" (aw cO) (ao cO) (a9 cO) .none kV11 dc11 pm11 an11 cd11 ct11),sl11⟩)
  (c11:codeIn K cd11 "Deed.after" = true)
  (k11:PySem.W.keepIn K (.ref g11)=true)
  (i11:isFn K (.ref g11)=true)
  (f12_1:PySem.W.findIn K (.ref C1) "turns" = some (some (.ref g12)))
  (l12:K.lookup g12=some ⟨oc12,od12,.func (fnOf "turns" "Deed.turns" (aw cN) (ao cN) (a9 cN) .none kV12 dc12 pm12 an12 cd12 ct12),sl12⟩)
  (c12:codeIn K cd12 "Deed.turns" = true)
  (k12:PySem.W.keepIn K (.ref g12)=true)
  (i12:isFn K (.ref g12)=true)
  (a13:PySem.W.nsIn K mainGlobals "turned" = some (some (.ref g13)))
  (l13:K.lookup g13=some ⟨oc13,od13,.func (fnOf "turned" "turned" (aw gz) (ao gz) (a9 gz) .none kV13 dc13 pm13 an13 cd13 ct13),sl13⟩)
  (c13:codeIn K cd13 "turned" = true)
  (k13:PySem.W.keepIn K (.ref g13)=true)
  (a14:PySem.W.nsIn K mainGlobals "behind" = some (some (.ref g14)))
  (l14:K.lookup g14=some ⟨oc14,od14,.func (fnOf "behind" "behind" (aw gE) (ao gE) (a9 gE) .none kV14 dc14 pm14 an14 cd14 ct14),sl14⟩)
  (c14:codeIn K cd14 "behind" = true)
  (k14:PySem.W.keepIn K (.ref g14)=true)
  (a15:PySem.W.nsIn K mainGlobals "add_walk" = some (some (.ref g15)))
  (l15:K.lookup g15=some ⟨oc15,od15,.func (fnOf "add_walk" "add_walk" (aw dY) (ao dY) (a9 dY) .none kV15 dc15 pm15 an15 cd15 ct15),sl15⟩)
  (c15:codeIn K cd15 "add_walk" = true)
  (k15:PySem.W.keepIn K (.ref g15)=true)
  (a16:PySem.W.nsIn K mainGlobals "starts_of" = some (some (.ref g16)))
  (l16:K.lookup g16=some ⟨oc16,od16,.func (fnOf "starts_of" "starts_of" (aw dc) (ao dc) (a9 dc) .none kV16 dc16 pm16 an16 cd16 ct16),sl16⟩)
  (c16:codeIn K cd16 "starts_of" = true)
  (k16:PySem.W.keepIn K (.ref g16)=true)
  (a17:PySem.W.nsIn K mainGlobals "begin" = some (some (.ref g17)))
  (l17:K.lookup g17=some ⟨oc17,od17,.func (fnOf "begin" "begin" (aw jk) (ao jk) (a9 jk) .none kV17 dc17 pm17 an17 cd17 ct17),sl17⟩)
  (c17:codeIn K cd17 "begin" = true)
  (k17:PySem.W.keepIn K (.ref g17)=true)
  (a18:PySem.W.nsIn K mainGlobals "entered" = some (some (.ref g18)))
  (l18:K.lookup g18=some ⟨oc18,od18,.func (fnOf "entered" "entered" (aw fB) (ao fB) (a9 fB) .none kV18 dc18 pm18 an18 cd18 ct18),sl18⟩)
  (c18:codeIn K cd18 "entered" = true)
  (k18:PySem.W.keepIn K (.ref g18)=true)
  (a19:PySem.W.nsIn K mainGlobals "come" = some (some (.ref g19)))
  (l19:K.lookup g19=some ⟨oc19,od19,.func (fnOf "come" "come" (aw kW) (ao kW) (a9 kW) .none kV19 dc19 pm19 an19 cd19 ct19),sl19⟩)
  (c19:codeIn K cd19 "come" = true)
  (k19:PySem.W.keepIn K (.ref g19)=true)
  (a20:PySem.W.nsIn K mainGlobals "word_at" = some (some (.ref g20)))
  (l20:K.lookup g20=some ⟨oc20,od20,.func (fnOf "word_at" "word_at" (aw fw) (ao fw) (a9 fw) .none kV20 dc20 pm20 an20 cd20 ct20),sl20⟩)
  (c20:codeIn K cd20 "word_at" = true)
  (k20:PySem.W.keepIn K (.ref g20)=true)
  (a21:PySem.W.nsIn K mainGlobals "shut_by" = some (some (.ref g21)))
  (l21:K.lookup g21=some ⟨oc21,od21,.func (fnOf "shut_by" "shut_by" (aw fz) (ao fz) (a9 fz) .none kV21 dc21 pm21 an21 cd21 ct21),sl21⟩)
  (c21:codeIn K cd21 "shut_by" = true)
  (k21:PySem.W.keepIn K (.ref g21)=true)
  (a22:PySem.W.nsIn K mainGlobals "may_enter" = some (some (.ref g22)))
  (l22:K.lookup g22=some ⟨oc22,od22,.func (fnOf "may_enter" "may_enter" (aw dh) (ao dh) (a9 dh) .none kV22 dc22 pm22 an22 cd22 ct22),sl22⟩)
  (c22:codeIn K cd22 "may_enter" = true)
  (k22:PySem.W.keepIn K (.ref g22)=true)
  (a23:PySem.W.nsIn K mainGlobals "may_come" = some (some (.ref g23)))
  (l23:K.lookup g23=some ⟨oc23,od23,.func (fnOf "may_come" "may_come" (aw dX) (ao dX) (a9 dX) .none kV23 dc23 pm23 an23 cd23 ct23),sl23⟩)
  (c23:codeIn K cd23 "may_come" = true)
  (k23:PySem.W.keepIn K (.ref g23)=true)
  (a24:PySem.W.nsIn K mainGlobals "table" = some (some (.ref g24)))
  (l24:K.lookup g24=some ⟨oc24,od24,.func (fnOf "table" "table" (aw jj) (ao jj) (a9 jj) (.ref td24) kV24 dc24 pm24 an24 cd24 ct24),sl24⟩)
  (c24:codeIn K cd24 "table" = true)
  (k24:PySem.W.keepIn K (.ref g24)=true)
  (t24:K.lookup td24=some ⟨tc24,te24,.seq #[.int (300) tt24] tn24,ts24⟩)
  (a25:PySem.W.nsIn K mainGlobals "judged" = some (some (.ref g25)))
  (l25:K.lookup g25=some ⟨oc25,od25,.func (fnOf "judged" "judged" (aw gB) (ao gB) (a9 gB) (.ref td25) kV25 dc25 pm25 an25 cd25 ct25),sl25⟩)
  (c25:codeIn K cd25 "judged" = true)
  (k25:PySem.W.keepIn K (.ref g25)=true)
  (t25:K.lookup td25=some ⟨tc25,te25,.seq #[.int (300) tt25] tn25,ts25⟩)
  (a26:PySem.W.nsIn K mainGlobals "mended" = some (some (.ref g26)))
  (l26:K.lookup g26=some ⟨oc26,od26,.func (fnOf "mended" "mended" (aw gA) (ao gA) (a9 gA) (.ref td26) kV26 dc26 pm26 an26 cd26 ct26),sl26⟩)
  (c26:codeIn K cd26 "mended" = true)
  (k26:PySem.W.keepIn K (.ref g26)=true)
  (t26:K.lookup td26=some ⟨tc26,te26,.seq #[.int (300) tt26] tn26,ts26⟩)
  (a27:PySem.W.nsIn K mainGlobals "_law_asked" = some (some (.ref g27)))
  (l27:K.lookup g27=some ⟨oc27,od27,.func (fnOf "_law_asked" "_law_asked" (aw dk) (ao dk) (a9 dk) .none kV27 dc27 pm27 an27 cd27 ct27),sl27⟩)
  (c27:codeIn K cd27 "_law_asked" = true)
  (k27:PySem.W.keepIn K (.ref g27)=true)
  (a28:PySem.W.nsIn K mainGlobals "_law_mixed" = some (some (.ref g28)))
  (l28:K.lookup g28=some ⟨oc28,od28,.func (fnOf "_law_mixed" "_law_mixed" (aw dj) (ao dj) (a9 dj) .none kV28 dc28 pm28 an28 cd28 ct28),sl28⟩)
  (c28:codeIn K cd28 "_law_mixed" = true)
  (k28:PySem.W.keepIn K (.ref g28)=true)
  (a29:PySem.W.nsIn K mainGlobals "_law_number" = some (some (.ref g29)))
  (l29:K.lookup g29=some ⟨oc29,od29,.func (fnOf "_law_number" "_law_number" (aw cM) (ao cM) (a9 cM) .none kV29 dc29 pm29 an29 cd29 ct29),sl29⟩)
  (c29:codeIn K cd29 "_law_number" = true)
  (k29:PySem.W.keepIn K (.ref g29)=true)
  (a30:PySem.W.nsIn K mainGlobals "_law_right" = some (some (.ref g30)))
  (l30:K.lookup g30=some ⟨oc30,od30,.func (fnOf "_law_right" "_law_right" (aw di) (ao di) (a9 di) .none kV30 dc30 pm30 an30 cd30 ct30),sl30⟩)
  (c30:codeIn K cd30 "_law_right" = true)
  (k30:PySem.W.keepIn K (.ref g30)=true)
  (a31:PySem.W.nsIn K mainGlobals "_law_stills" = some (some (.ref g31)))
  (l31:K.lookup g31=some ⟨oc31,od31,.func (fnOf "_law_stills" "_law_stills" (aw cL) (ao cL) (a9 cL) .none kV31 dc31 pm31 an31 cd31 ct31),sl31⟩)
  (c31:codeIn K cd31 "_law_stills" = true)
  (k31:PySem.W.keepIn K (.ref g31)=true)
  (a32:PySem.W.nsIn K mainGlobals "law" = some (some (.ref g32)))
  (l32:K.lookup g32=some ⟨oc32,od32,.func (fnOf "law" "law" (aw mW) (ao mW) (a9 mW) .none kV32 dc32 pm32 an32 cd32 ct32),sl32⟩)
  (c32:codeIn K cd32 "law" = true)
  (k32:PySem.W.keepIn K (.ref g32)=true)
  (na_plan_1:PySem.W.findIn K (.ref C1) "plan" = some none)
  (xa_TooMany:PySem.W.nsIn K mainGlobals "TooMany" = some (some (.ref X0)))
  (xf_TooMany:PySem.W.findIn K (.ref X0) "__init__" = some (some (.ref I0)))
  (xl_TooMany:K.lookup I0=some ⟨xc0,xd0,.func (fnOf "__init__" "TooMany.__init__" (aw (fW (top 46) 0)) (ao (fW (top 46) 0)) (a9 (fW (top 46) 0)) .none xk0 xo0 xp0 xa0 xe0 xt0),xl0⟩)
  (xc_TooMany:codeIn K xe0 "TooMany.__init__" = true)
  (xk_TooMany:PySem.W.keepIn K (.ref I0)=true)
  (x1_TooMany:yn K X0 I0=true)
  (x2_TooMany:PySem.W.typeIn K (.ref I0)=some (.type "function"))
  (x3_TooMany:PySem.W.findIn K (.ref X0) "__setattr__" = some (some (.builtin "object.__setattr__")))
  (x4_TooMany:PySem.W.findIn K (.ref X0) "__getattribute__" = some (some (.builtin "BaseException.__getattribute__")))
  (x5_TooMany:PySem.W.findIn K (.ref X0) "__getattr__" = some none)
  (x6_TooMany:PySem.W.findIn K (.ref X0) "most" = some none)
  (x7_TooMany:PySem.W.keepIn K (.ref X0)=true)
  (ya_BellError:PySem.W.nsIn K mainGlobals "BellError" = some (some (.ref Y_BellError)))
  (ya_TooMany:PySem.W.nsIn K mainGlobals "TooMany" = some (some (.ref Y_TooMany)))
  (ya_NoBell:PySem.W.nsIn K mainGlobals "NoBell" = some (some (.ref Y_NoBell)))
  (ya_NoLine:PySem.W.nsIn K mainGlobals "NoLine" = some (some (.ref Y_NoLine)))
  (ya_NoNest:PySem.W.nsIn K mainGlobals "NoNest" = some (some (.ref Y_NoNest)))
  (ya_NoText:PySem.W.nsIn K mainGlobals "NoText" = some (some (.ref Y_NoText)))
  (yt1:PySem.W.findIn K (.ref X0) "__class__" = some (some (.builtin "object.__class__")))
  (yt2:PySem.W.specialIn K (.builtin "object.__class__") "__get__" = some (some (.builtin "getset_descriptor.__get__")))
  (yt3:PySem.W.takesIn K (.builtin "object.__class__")=some true)
  (yt4:PySem.W.mroIn K X0 (.type "object")=some true)
  (yb1:(PySem.W.clsIn K Y_BellError).isSome=true)
  (yb2:PySem.W.typeIn K (.ref Y_BellError)=some (.type "type"))
  (yb3:PySem.W.mroIn K Y_BellError (.type "BaseException")=some true)
  (yb4:PySem.W.mroIn K X0 (.ref Y_BellError)=some true)
  (yv:PySem.W.kitOne K (.ref X0) (.type "ValueError")=some true)
  (yy_TooMany:PySem.W.kitOne K (.ref X0) (.ref Y_TooMany)=some true)
  (yy_NoBell:PySem.W.kitOne K (.ref X0) (.ref Y_NoBell)=some false)
  (yy_NoLine:PySem.W.kitOne K (.ref X0) (.ref Y_NoLine)=some false)
  (yy_NoNest:PySem.W.kitOne K (.ref X0) (.ref Y_NoNest)=some false)
  (yy_NoText:PySem.W.kitOne K (.ref X0) (.ref Y_NoText)=some false)
  (z_ValueError:PySem.W.nsIn K mainGlobals "ValueError" = some none)
  (z_enumerate:PySem.W.nsIn K mainGlobals "enumerate" = some none)
  (z_int:PySem.W.nsIn K mainGlobals "int" = some none)
  (z_isinstance:PySem.W.nsIn K mainGlobals "isinstance" = some none)
  (z_len:PySem.W.nsIn K mainGlobals "len" = some none)
  (z_list:PySem.W.nsIn K mainGlobals "list" = some none)
  (z_min:PySem.W.nsIn K mainGlobals "min" = some none)
  (z_range:PySem.W.nsIn K mainGlobals "range" = some none)
  (z_tuple:PySem.W.nsIn K mainGlobals "tuple" = some none):
  (∃cls,HC K mg cls)/\ix mg:=by
 have e_TooMany:ph [("Deed",C0),("Still",C1),("TooMany",X0)] "TooMany" = X0:=(si (by decide) (si (by decide) sj))
 have e_Deed:ph [("Deed",C0),("Still",C1),("TooMany",X0)] "Deed" = C0:=sj;have e_Still:ph [("Deed",C0),("Still",C1),("TooMany",X0)] "Still" = C1:=(si (by decide) sj)
 generalize ph [("Deed",C0),("Still",C1),("TooMany",X0)]=cls at *;exact⟨⟨cls,⟨aU X G a0 l0 c0 k0 λ_ _ _ _ _ _ us hl=>match us,hl with|[_,_],_=>rfl,
  aU X G a1 l1 c1 k1 λ_ _ _ _ _ _ us hl=>match us,hl with|[_,_,_],_=>rfl,
  aU X G a2 l2 c2 k2 λ_ _ _ _ _ _ us hl=>match us,hl with|[_,_],_=>rfl,
  aU X G a3 l3 c3 k3 λ_ _ _ _ _ _ us hl=>match us,hl with|[_,_],_=>rfl,
  By X G a4 l4 c4 k4 λ_ _ _ _ _ _ us hl=>match us,hl with|[_,_],_=>rfl,
  aU X G a5 l5 c5 k5 λ_ _ _ _ _ _ us hl=>match us,hl with|[_,_,_],_=>rfl,
  aU X G a6 l6 c6 k6 λ_ _ _ _ _ _ us hl=>match us,hl with|[_,_],_=>rfl,
  aU X G a7 l7 c7 k7 λ_ _ _ _ _ _ us hl=>match us,hl with|[_,_],_=>rfl,
  uz X G e_Deed ca0 f8 l8 c8 k8 i8 m8 n8 o8 q8 r8 (λ_ _ _ _ _ _ us hl=>match us,hl with|[_,_],_=>rfl),
  uz X G e_Still ca1 f9 l9 c9 k9 i9 m9 n9 o9 q9 r9 (λ_ _ _ _ _ _ us hl=>match us,hl with|[_,_],_=>rfl),
  aU X G a10 l10 c10 k10 λ_ _ _ _ _ _ us hl=>match us,hl with|[_,_],_=>rfl,
  uy l11 c11 k11 i11 (λ_ _ _ _ _ _ us hl=>match us,hl with|[_,_,_,_],_=>rfl) (all_cons (by rw[e_Still];exact⟨⟨cp1,ch1,co1,cs1⟩,f11_1⟩) all_nil),
  uy l12 c12 k12 i12 (λ_ _ _ _ _ _ us hl=>match us,hl with|[_],_=>rfl) (all_cons (by rw[e_Still];exact⟨⟨cp1,ch1,co1,cs1⟩,f12_1⟩) all_nil),
  aU X G a13 l13 c13 k13 λ_ _ _ _ _ _ us hl=>match us,hl with|[_,_,_],_=>rfl,
  aU X G a14 l14 c14 k14 λ_ _ _ _ _ _ us hl=>match us,hl with|[_,_],_=>rfl,
  aU X G a15 l15 c15 k15 λ_ _ _ _ _ _ us hl=>match us,hl with|[_,_,_,_,_],_=>rfl,
  aU X G a16 l16 c16 k16 λ_ _ _ _ _ _ us hl=>match us,hl with|[_],_=>rfl,
  aU X G a17 l17 c17 k17 λ_ _ _ _ _ _ us hl=>match us,hl with|[_],_=>rfl,
  aU X G a18 l18 c18 k18 λ_ _ _ _ _ _ us hl=>match us,hl with|[_,_],_=>rfl,
  aU X G a19 l19 c19 k19 λ_ _ _ _ _ _ us hl=>match us,hl with|[_,_,_],_=>rfl,
  aU X G a20 l20 c20 k20 λ_ _ _ _ _ _ us hl=>match us,hl with|[_,_,_],_=>rfl,
  aU X G a21 l21 c21 k21 λ_ _ _ _ _ _ us hl=>match us,hl with|[_,_],_=>rfl,
  aU X G a22 l22 c22 k22 λ_ _ _ _ _ _ us hl=>match us,hl with|[_,_,_],_=>rfl,
  aU X G a23 l23 c23 k23 λ_ _ _ _ _ _ us hl=>match us,hl with|[_,_],_=>rfl,
  nF X G a24 l24 c24 k24 t24 (λ_ _ _ _ _ _ us hl=>match us,hl with|[_,_,_],_=>⟨_,rfl,rfl⟩) (λ_ _ _ _ _ _ us hl=>match us,hl with|[_,_],_=>⟨_,rfl,rfl⟩),
  nF X G a25 l25 c25 k25 t25 (λ_ _ _ _ _ _ us hl=>match us,hl with|[_,_,_],_=>⟨_,rfl,rfl⟩) (λ_ _ _ _ _ _ us hl=>match us,hl with|[_,_],_=>⟨_,rfl,rfl⟩),
  nF X G a26 l26 c26 k26 t26 (λ_ _ _ _ _ _ us hl=>match us,hl with|[_,_,_],_=>⟨_,rfl,rfl⟩) (λ_ _ _ _ _ _ us hl=>match us,hl with|[_,_],_=>⟨_,rfl,rfl⟩),
  aU X G a27 l27 c27 k27 λ_ _ _ _ _ _ us hl=>match us,hl with|[_,_],_=>rfl,
  aU X G a28 l28 c28 k28 λ_ _ _ _ _ _ us hl=>match us,hl with|[_,_],_=>rfl,
  aU X G a29 l29 c29 k29 λ_ _ _ _ _ _ us hl=>match us,hl with|[_,_],_=>rfl,
  aU X G a30 l30 c30 k30 λ_ _ _ _ _ _ us hl=>match us,hl with|[_,_,_],_=>rfl,
  aU X G a31 l31 c31 k31 λ_ _ _ _ _ _ us hl=>match us,hl with|[_],_=>rfl,
  aU X G a32 l32 c32 k32 λ_ _ _ _ _ _ us hl=>match us,hl with|[_],_=>rfl,
  (all_cons (by rw[e_Still];exact⟨⟨cp1,ch1,co1,cs1⟩,na_plan_1⟩) all_nil),
  Bx X G e_TooMany xa_TooMany xl_TooMany xc_TooMany xk_TooMany x1_TooMany x2_TooMany x3_TooMany x4_TooMany x5_TooMany x6_TooMany x7_TooMany (λ_ _ _ _ _ _ us hl=>match us,hl with|[_,_],_=>rfl),
  Bz X G e_TooMany x1_TooMany x2_TooMany x3_TooMany x4_TooMany x5_TooMany x6_TooMany x7_TooMany yt1 yt2 yt3 yt4 ya_BellError yb1 yb2 yb3 yb4 yv (forall_mem_cons.mpr ⟨⟨_,ya_TooMany,yy_TooMany⟩,(λ_ h=>nomatch h)⟩) (forall_mem_cons.mpr ⟨⟨_,ya_NoBell,yy_NoBell⟩,(forall_mem_cons.mpr ⟨⟨_,ya_NoLine,yy_NoLine⟩,(forall_mem_cons.mpr ⟨⟨_,ya_NoNest,yy_NoNest⟩,(forall_mem_cons.mpr ⟨⟨_,ya_NoText,yy_NoText⟩,(λ_ h=>nomatch h)⟩)⟩)⟩)⟩)⟩⟩,⟨mg_none_of X G z_ValueError,mg_none_of X G z_enumerate,mg_none_of X G z_int,mg_none_of X G z_isinstance,mg_none_of X G z_len,mg_none_of X G z_list,mg_none_of X G z_min,mg_none_of X G z_range,mg_none_of X G z_tuple⟩⟩
end Bell
namespace PySem.W.Fast
def tw4213725274455010509:=0
def tw7201919065108610806:=0
def tw5147882955656936463:=0
def tw16094131685113767625:=0
def tw9760980363493203279:=0
def tw7092365491885061680:=0
def tw3071583945645538744:=0
def tw6814341761793886643:=0
def tw15910654708213382246:=0
def tw11796526861528093555:=0
def tw14870089439900825896:=0
def tw17423963320691049629:=0
def tw5129475852113763605:=0
def tw1593123895557300080:=0
def tw2132421008237716843:=0
def tw4763301973409800163:=0
def tw2158638205346858376:=0
def tw16976706230125579237:=0
def tw15080144966883198589:=0
def tw1182568714873351031:=0
def tw12561136735327319476:=0
def tw8112772013222420273:=0
def tw3056432186215551862:=0
def tw11995337595149574126:=0
def tw12859478099817222606:=0
def tw1484494683232048361:=0
def tw3836117836577831509:=0
def tw1993382750239154585:=0
def tw3215627885186684818:=0
def tw1782571519074789350:=0
def tw6471740059552979062:=0
def tw16628652077679989020:=0
def tw5269047279246686042:=0
def tw13776891370727141654:=0
def tw11099000834822386280:=0
def tw13925471912252987662:=0
def tw11852308474150586872:=0
def tw9676445462554444722:=0
def tw196997296782085257:=0
def tw786655991163217156:=0
def tw7775931007533150692:=0
def tw2705241733221739999:=0
def tw14104245050085219398:=0
def tw5373054719385711245:=0
def tw8594049298461153648:=0
def tw1107745764045775593:=0
def tw7093964221478735423:=0
def tw206297326597727398:=0
def tw553187287585629088:=0
def tw10391586057288381974:=0
def tw2318517186119912945:=0
def tw609938389838810860:=0
def tw2185009639089220542:=0
def tw8608119830194076505:=0
def tw8408423470455771577:=0
def tw18436863836705500957:=0
def tw2589911014577263670:=0
def tw14893021544413731804:=0
def tw587940987898688443:=0
def tw8135818039341724044:=0
def tw5011500025682382254:=0
def tw2006591102343129739:=0
def tw12104252858832764453:=0
def tw4521265639288025830:=0
def tw11841139678499302050:=0
def tw12556933239107281969:=0
def tw16395549231169579250:=0
def tw9974030773514131362:=0
def tw12218279655771880485:=0
def tw11982818361483376310:=0
def tw16063628994234452814:=0
def tw11274192229564709242:=0
def tw15693611308792599342:=0
def tw744842722709234426:=0
def tw17594227110104213817:=0
def tw16027440721516236096:=0
def tw9723259892484903011:=0
def tw15751095088661480911:=0
def tw1086773372071873364:=0
def tw6591552262246916624:=0
def tw8075095796570273332:=0
def tw5147223873373984591:=0
def tw9313321611447970430:=0
def tw12606076759866414415:=0
def tw10735305693380702089:=0
def tw13604492232457620705:=0
def tw8414858970882115240:=0
def tw4594163607633625404:=0
def tw13850677850373460849:=0
def tw5459987663665812886:=0
def tw4515339753371860818:=0
def tw11025749963494569479:=0
def tw14463606621497353701:=0
def tw6166219300992844809:=0
def tw16149435948954136897:=0
def tw6493229221924026449:=0
def tw12798974208501432138:=0
def tw17072745120708198324:=0
def tw9665908711188432924:=0
def tw9073300941068072018:=0
def tw17881938133706924915:=0
def tw3042251145540678875:=0
def tw18419818035268345315:=0
def tw16093838302064559715:=0
def tw668655939345068057:=0
def tw15574131635274184354:=0
def tw3467384950428581726:=0
def tw1086922230941453404:=0
def tw961822257936758174:=0
def tw479592917052861354:=0
def tw16150945115920323542:=0
def tw5669049841365656805:=0
def tw16724349908983673306:=0
def tw16926487443273346067:=0
def tw15490002191830205807:=0
def tw11732414025501041875:=0
def tw13732582953190895171:=0
def tw6606069507152784160:=0
def tw12559853332124391143:=0
def tw7288869212269504228:=0
def tw13194440959443062108:=0
def tw15262768945392556623:=0
def tw5439013323171547036:=0
def tw1103335288142735871:=0
def tw4252444224008816051:=0
def tw9207734906764151878:=0
def tw2441957119371677411:=0
def tw8892459449901901225:=0
def tw7609510571968052498:=0
def tw1502481729256878563:=0
def tw12283251540083079112:=0
def tw10716964524225053215:=0
def tw3704101759269247739:=0
def tw14449085467629792762:=0
def tw8131345056204992300:=0
def tw3105879977143059145:=0
def tw6386039046090385598:=0
def tw18059210392137122280:=0
def tw14641113366567388109:=0
def tw16218077983912933359:=0
def tw1363706594835254207:=0
def tw1075585148453924583:=0
def tw4003478567255908974:=0
def tw7062986239768081506:=0
def tw15864481475195632067:=0
def tw16260617808559060195:=0
def tw11818449498244916706:=0
def tw13670625270319602414:=0
def tw10200896573399784283:=0
def tw15890318389599485250:=0
def tw10355267271429202836:=0
def tw16601602791916972334:=0
def tw14669586682582351513:=0
def tw5911410722088939902:=0
def tw3418643630538059066:=0
def tw611599269513622924:=0
def tw15134598472438696917:=0
def tw6842816766690853891:=0
def tw1903216077157004197:=0
def tw3123787427568477893:=0
def tw15830270085977999846:=0
def tw16488300190627186528:=0
def tw1355929968685800177:=0
def tw9068627367883801132:=0
def tw3152796072951598414:=0
def tw12144842221904354163:=0
def tw4794321150703019722:=0
def tw15617453751332732253:=0
def tw14627314024229674133:=0
def tw11804179040547066179:=0
def tw14810854202735622499:=0
def tw6761392188568909974:=0
def tw14940483864841361384:=0
def tw18401939410962164125:=0
def tw4643686578406456112:=0
def tw13892980990534042663:=0
def tw2364261877555707857:=0
def tw11777855470374544707:=0
def tw14158703965505786001:=0
def tw4950191281328221616:=0
def tw1944190690812026452:=0
def tw14817531251364479286:=0
def tw10019306096218199011:=0
def tw17733954833558013913:=0
def tw10873209490928806106:=0
def tw6899125723006416150:=0
def tw2052625163275827700:=0
def tw9514315777934679761:=0
def tw6633352743449355893:=0
def tw2479834222808490225:=0
def tw5199559395824250958:=0
def tw16553813767778372672:=0
def tw8364800804678784072:=0
def tw3812144247521952242:=0
def tw7050203986332641428:=0
def tw15568349268222167262:=0
def tw7901285566174538585:=0
def tw14194444614249170831:=0
def tw16700310144509125455:=0
def tw10955892197163444571:=0
def tw8426139776619221032:=0
def tw9884503961089322901:=0
def tw6400187615541279396:=0
def tw4555552642421971908:=0
def tw17955011104079667517:=0
def tw13489875338566465187:=0
def tw1313901954389197662:=0
def tw11863378484199634242:=0
def tw6344801906275558106:=0
def tw3126234177286488672:=0
def tw16909158824258268020:=0
def tw1588165379998153033:=0
def tw14341067857147396778:=0
def tw5255448792056561912:=0
def tw9178262623074506676:=0
def tw5243352956568617408:=0
end PySem.W.Fast
end
open PySem PySem.W PyProof.Rows
set_option maxRecDepth 100000 in
set_option maxHeartbeats 0 in
theorem PySem.Challenge.cw_bellnest_k74_mended_too_many_holds : PySem.Challenge.rw_bellnest_k74_mended_too_many.Holds := by
 w_on;o_law;k_head;(case hw=>w_witness2)
 k_fill
 refine Bell.walk (l:=PySem.Challenge.rw_bellnest_k74_mended_too_many) Bell.law_true rfl (λw=>by kernel_rfl) (λw=>by kernel_rfl) rfl rfl rfl (λw h Y=>PySem.W.km_in_of Y) ?F
 case F=>
  intro w mg h KX G;refine' Bell.defs_mk KX G ?_ ?_ ?_ ?_ ?_ ?_ ?_ ?_ ?_ ?_ ?_ ?_ ?_ ?_ ?_ ?_ ?_ ?_ ?_ ?_ ?_ ?_ ?_ ?_ ?_ ?_ ?_ ?_ ?_ ?_ ?_ ?_ ?_ ?_ ?_ ?_ ?_ ?_ ?_ ?_ ?_ ?_ ?_ ?_ ?_ ?_ ?_ ?_ ?_ ?_ ?_ ?_ ?_ ?_ ?_ ?_ ?_ ?_ ?_ ?_ ?_ ?_ ?_ ?_ ?_ ?_ ?_ ?_ ?_ ?_ ?_ ?_ ?_ ?_ ?_ ?_ ?_ ?_ ?_ ?_ ?_ ?_ ?_ ?_ ?_ ?_ ?_ ?_ ?_ ?_ ?_ ?_ ?_ ?_ ?_ ?_ ?_ ?_ ?_ ?_ ?_ ?_ ?_ ?_ ?_ ?_ ?_ ?_ ?_ ?_ ?_ ?_ ?_ ?_ ?_ ?_ ?_ ?_ ?_ ?_ ?_ ?_ ?_ ?_ ?_ ?_ ?_ ?_ ?_ ?_ ?_ ?_ ?_ ?_ ?_ ?_ ?_ ?_ ?_ ?_ ?_ ?_ ?_ ?_ ?_ ?_ ?_ ?_ ?_ ?_ ?_ ?_ ?_ ?_ ?_ ?_ ?_ ?_ ?_ ?_ ?_ ?_ ?_ ?_ ?_ ?_ ?_ ?_ ?_ ?_ ?_ ?_ ?_ ?_ ?_ ?_ ?_ ?_ ?_ ?_ ?_ ?_ ?_ ?_ ?_ ?_ ?_ ?_ ?_ ?_ ?_ ?_ ?_ ?_ ?_ ?_ ?_ ?_ ?_ ?_ ?_
  all_goals (try (first|k_is|kernel_rfl!))
