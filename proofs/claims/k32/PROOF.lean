import PyProof.Rows.All
import Wide.All
import OpenK.AllK
import Wide.FinOn
import Lean
import PyProof.EqAt
import PyProof.EqKinds
import PyProof.TupleCall
import PySem.SetOps
import KE.KMinKey
import PySem.Challenge.RW_bellnest_k32_depth_where_nothing_is_shut
noncomputable section
set_option Elab.async false
set_option linter.all false
set_option maxRecDepth 100000
open PySem.W (Frag KdlSrc callWith_K codeIn emptyDict findCls findIn fnOf handedIn hasDictIn instObj isFn keepIn kia_one kitOne kitx_dict kitx_list lookIn makesIn methodCall_KW methodObj mg_none_of mg_of nsIn plainGet plainGet_of plainOver readsIn specialIn takerIn)
open List (all_eq_true any_cons append_assoc append_nil ext_getElem? find?_cons flatten_cons foldl_cons getD_eq_getElem?_getD getElem?_append_left getElem?_append_right getElem?_eq_getElem getElem?_eq_none getElem?_map getElem?_range getElem?_replicate getElem?_set_ne getElem?_set_self getElem_drop getElem_mem length_append length_cons length_drop length_map length_range length_replicate length_set length_singleton length_take lookup_cons map_append map_congr_left map_cons map_map map_nil mem_append mem_append_right mem_cons mem_cons_of_mem mem_cons_self mem_filter mem_map mem_of_getElem? mem_range mem_singleton nil_append nodup_cons pairwise_cons replicate replicate_succ size_toArray)
open PySem.Heap (get?_push_of_some get?_push_size get?_update_other lt_size size_push)
open Nat (le_of_eq le_of_lt le_refl le_trans lt_irrefl lt_of_lt_of_le lt_succ_of_lt lt_succ_self lt_trans ne_of_gt ne_of_lt zero_le)
open Array (getElem?_toList length_toList)
open Int (emod_nonneg toNat_natCast)
namespace L2
open PySem PySem.Spec PyProof.Rows
abbrev Key:=Sum Int Str
def tu:Key->Value->Bool
 |.inl k,v=>Value.isInt k v
 |.inr x,v=>Value.isStrOf x v
def KZ(w:World):Key->Int
 |.inl k=>hashInt k
 |.inr x=>hashStr w x
theorem cO:∀{k:Key}{v:Value},tu k v=true->(∃i t,k=Sum.inl i/\v=Value.int i t)\/(∃x t,k=Sum.inr x/\v=Value.str x t)
 |.inl i,v,h=>by
  obtain⟨t,e⟩:=Value.isInt_shape (k:=i) (v:=v) h;exact .inl ⟨i,t,rfl,e⟩
 |.inr x,v,h=>by
  obtain⟨t,e⟩:=Value.isStrOf_shape (x:=x) (v:=v) h;exact .inr ⟨x,t,rfl,e⟩
theorem CB(i:Int)(t:Tok):tu (.inl i) (.int i t)=true:=by simp[tu,Value.isInt]
theorem CA(x:Str)(t:Tok):tu (.inr x) (.str x t)=true:=by simp[tu,Value.isStrOf]
theorem Iz(a b:Int):decide ((Sum.inl a:Key)=Sum.inl b)=(a == b):=by
 by_cases e:a=b
 ·subst e;simp
 ·have h:¬(Sum.inl a:Key)=Sum.inl b:=λq=>e (Sum.inl.inj q);rw[decide_eq_false h];exact(beq_eq_false_iff_ne.mpr e).symm
theorem Iu(a b:Str):decide ((Sum.inr a:Key)=Sum.inr b)=decide (a=b):=by
 by_cases e:a=b
 ·subst e;simp
 ·have h:¬(Sum.inr a:Key)=Sum.inr b:=λq=>e (Sum.inr.inj q);rw[decide_eq_false h,decide_eq_false e]
theorem Iy(a:Int)(b:Str):decide ((Sum.inl a:Key)=Sum.inr b)=false:=decide_eq_false (λq=>nomatch q)
theorem Iw(a:Str)(b:Int):decide ((Sum.inr a:Key)=Sum.inl b)=false:=decide_eq_false (λq=>nomatch q)
def f9(prog:Program)(w:World):PySem.KeyKind prog w Key where
 is:=tu
 hash:=KZ w
 inj:=λv a b ha hb=>by
  rcases cO ha with⟨i,t,rfl,rfl⟩|⟨x,t,rfl,rfl⟩
  ·rcases cO hb with⟨j,u,rfl,e⟩|⟨y,u,rfl,e⟩
   ·injection e with e1 _;rw[e1]
   ·exact nomatch e
  ·rcases cO hb with⟨j,u,rfl,e⟩|⟨y,u,rfl,e⟩
   ·exact nomatch e
   ·injection e with e1 _;rw[e1]
 byValue:=λk v h=>by
  rcases cO h with⟨i,t,rfl,rfl⟩|⟨x,t,rfl,rfl⟩ <;> rfl
 pyHash:=λhv h=>by
  rcases cO hv with⟨i,t,rfl,rfl⟩|⟨x,t,rfl,rfl⟩
  ·exact wpAny_pyHash_int h
  ·exact wpAny_pyHash_str h
 eqBool:=λhu hv h=>by
  rcases cO hu with⟨i,t,rfl,rfl⟩|⟨x,t,rfl,rfl⟩
  ·rcases cO hv with⟨j,u,rfl,rfl⟩|⟨y,u,rfl,rfl⟩
   ·rw[Iz] at h;exact wpAny_eqBool_int h
   ·rw[Iy] at h;exact SeqAt.EqAt.int_str i t y u _ _ _ _ h
  ·rcases cO hv with⟨j,u,rfl,rfl⟩|⟨y,u,rfl,rfl⟩
   ·rw[Iw] at h;exact SeqAt.EqAt.str_int x t j u _ _ _ _ h
   ·rw[Iu] at h;exact wpAny_eqBool_str h
 «strs»:=λk x t v h=>by
  rcases cO h with⟨i,u,rfl,e⟩|⟨y,u,rfl,e⟩
  ·exact nomatch e
  ·injection e with e1 _;subst e1;cases v <;> rfl
theorem wY(prog:Program)(w:World)(i:Int)(t:Tok):(f9 prog w).is (.inl i) (.int i t)=true:=CB i t
theorem wX(prog:Program)(w:World)(x:Str)(t:Tok):(f9 prog w).is (.inr x) (.str x t)=true:=CA x t
inductive V where
 |non|bl (b:Bool)|int (i:Int)|str (x:Str)|byt (b:Array UInt8)|flt (b:UInt64)|ref (a:Addr)|ty (n:String)
 deriving DecidableEq
def RelV:V->Value->Prop
 |.non,u=>u=Value.none
 |.bl b,u=>u=Value.bool b
 |.int i,u=>∃t,u=Value.int i t
 |.str x,u=>∃t,u=Value.str x t
 |.byt b,u=>∃t,u=Value.bytes b t
 |.flt b,u=>∃t,u=Value.float b t
 |.ref a,u=>u=Value.ref a
 |.ty n,u=>u=Value.type n
abbrev Vals:List V->List Value->Prop:=Paired RelV
theorem Vals.length{xs:List V}{us:List Value}(r:Vals xs us):xs.length=us.length:=Paired.length r
theorem Vals.get:∀{xs:List V}{us:List Value}{i:Nat}{x:V},Vals xs us->xs[i]?=some x->∃u,us[i]?=some u/\RelV x u
 |_,_,_,_,.nil,e=>by simp at e
 |_,_,0,_,.cons r _,e=>by simp at e;subst e;exact⟨_,rfl,r⟩
 |_,_,i+1,x,.cons _ t,e=>by
  obtain⟨u,h1,h2⟩:=Vals.get (i:=i) (x:=x) t (by simpa using e)
  exact⟨u,by simpa using h1,h2⟩
theorem Vals.set{x:V}{u:Value}(r:RelV x u):∀{xs:List V}{us:List Value}(i:Nat),Vals xs us->Vals (xs.set i x) (us.set i u)
 |_,_,_,.nil=>.nil
 |_,_,0,.cons _ t=>.cons r t
 |_,_,i+1,.cons q t=>.cons q (Vals.set r i t)
theorem Vals.append:∀{xs ys:List V}{us ws:List Value},Vals xs us->Vals ys ws->Vals (xs++ys) (us++ws)
 |_,_,_,_,.nil,s=>s
 |_,_,_,_,.cons r t,s=>.cons r (Vals.append t s)
theorem Vals.take:∀{xs:List V}{us:List Value}(n:Nat),Vals xs us->Vals (xs.take n) (us.take n)
 |_,_,0,_=>.nil
 |_,_,_+1,.nil=>.nil
 |_,_,n+1,.cons r t=>.cons r (Vals.take n t)
theorem Vals.drop:∀{xs:List V}{us:List Value}(n:Nat),Vals xs us->Vals (xs.drop n) (us.drop n)
 |_,_,0,r=>r
 |_,_,_+1,.nil=>.nil
 |_,_,n+1,.cons _ t=>Vals.drop n t
theorem Vals.none_of:∀{xs:List V}{us:List Value}{i:Nat},Vals xs us->xs[i]?=none->us[i]?=none:=λ{xs us i} r e=>by
 have h1:=r.length;have h2:xs.length<=i:=List.getElem?_eq_none_iff.mp e;exact List.getElem?_eq_none_iff.mpr (by omega)
def RelO:Option V->Option Value->Prop
 |some v,some u=>RelV v u
 |none,none=>True
 |_,_=>False
def KV{κ:Type}:List (κ×V)->List (κ×Value)->Prop:=Paired λ(p:κ×V)(q:κ×Value)=>p.1=q.1/\RelV p.2 q.2
def kV:Key->V
 |.inl i=>.int i
 |.inr x=>.str x
inductive HO where
 |lst (xs:List V)
 |tup (xs:List V)
 |dK (kvs:List (Key×V))|dT (kvs:List (List Key×V))
 |set (S:Int->Bool) (n:Nat)
 |ins (C dx:Addr) (fs:List (Str×V))
 |own (x:Addr)
 |xd (fs:List (Str×V))
 |met (f x:Addr)
 |rng (lo hi:Int)
 |frz (o:Obj) (u:HO)
 |tbl (ps:Array Value)
 |tab (good:Pos->Option Str)
 |fnc (c:Addr) (q:Str)
 |ext (φ:Heap->Prop)
abbrev Hp:=Addr->Option HO
def c8(H:Hp)(a:Addr)(o:HO):Hp:=λb=>if b=a then some o else H b
theorem aB{H:Hp}{a:Addr}{o:HO}:c8 H a o a=some o:=by unfold c8;rw[if_pos rfl]
theorem av{H:Hp}{a b:Addr}{o:HO}(h:b≠a):c8 H a o b=H b:=by unfold c8;rw[if_neg h]
theorem JX{H:Hp}{a b:Addr}{o u:HO}(h:H a=some o)(h':H b=some u)(d:o≠u):a≠b:=by
 intro e;subst e;rw[h] at h';exact d (Option.some.inj h')
theorem aG{H:Hp}{a b:Addr}{o:HO}(h:H a=some o)(h':H b=none):a≠b:=by
 intro e;subst e;rw[h] at h';cases h'
section
variable(P:Program)(w:World)
def ck(H:Hp)(h:Heap)(a:Addr):HO->Prop
 |.lst xs=>xs.length<=sizeLine/\∃(its:List Value)(n:Nat),Vals xs its/\h.get? a=some {cls:=.type "list",data:=.seq its.toArray n}
 |.tup xs=>xs.length<=sizeLine/\∃its:List Value,Vals xs its/\IsTup h a its.toArray
 |.dK kvs=>kvs.length<=sizeLine/\(a == sysModules)=false/\∃vs,KV kvs vs/\h.DictOf (f9 P w) a vs
 |.dT kvs=>kvs.length<=sizeLine/\(a == sysModules)=false/\∃xs:List (List Key×Addr×Value),
   Paired (λ(p:List Key×V)(q:List Key×Addr×Value)=>p.1=q.1/\H q.2.1=some (.tup (p.1.map kV))/\RelV p.2 q.2.2) kvs xs/\
   ∃o es ep,h.get? a=some o/\o.ExactDict/\o.data=.dict es ep/\es.toList=xs.map (entryOfKey (tupleKind (f9 P w)))/\(xs.map (·.1)).Nodup
 |.set S n=>h.SetOf (intKind P w) a S n
 |.ins C dx fs=>H dx=some (.own a)/\fs.length<=1000/\dx≠a/\h.get? a=some (instObj C dx)/\
   ∃mA,h.Ns1 dx mA/\(∀f,RelO (fs.lookup f) (mA f))/\PySem.Within mA (fs.map (·.1))
 |.own _=>∃o,h.get? a=some o
 |.xd fs=>∃mA,h.Ns1 a mA/\∀f,RelO (fs.lookup f) (mA f)
 |.rng lo hi=>∃t u v,h.get? a=some {cls:=.type "range",data:=.fields #[.int lo t,.int hi u,.int 1 v]}
 |.frz o u=>h.get? a=some o/\ck H h a u
 |.tbl ps=>h.get? a=some {cls:=.none,data:=.fields ps}
 |.tab good=>∃ps:Array Value,h.get? a=some {cls:=.none,data:=.fields ps}/\TriplesOk ps.toList/\∀p cv,(good p).isSome=true->codeAmong p ps.toList=some cv->∃(c:Addr)(oc:Obj)(q:Str)(vs:Array Value)(t:Tok),cv=.ref c/\H c=some (.frz oc (.own c))/\good p=some q/\oc.data=.fields vs/\vs[1]?=some (.str q t)
 |.fnc c q=>(∃o,h.get? a=some o)/\∃(oc:Obj)(vs:Array Value)(t:Tok),H c=some (.frz oc (.own c))/\oc.data=.fields vs/\vs[1]?=some (.str q t)
 |.met f x=>h.get? a=some (methodObj (.ref f) (.ref x))
 |.ext φ=>φ h/\(∃o,h.get? a=some o)/\∀h1 h2:Heap,φ h1->(∀o,h1.get? a=some o->h2.get? a=some o)->φ h2
def lV(H:Hp)(h:Heap):Prop:=∀a o,H a=some o->ck P w H h a o
end
section
variable{P:Program}{w:World}{H H':Hp}{h h':Heap}{a:Addr}{o:HO}
theorem ck.lt(x:ck P w H h a o):a<h.objs.size:=by
 cases o with
 |lst xs=>obtain⟨_,_,_,_,e⟩:=x;exact lt_size e
 |tup xs=>obtain⟨_,_,_,p⟩:=x;exact p.lt
 |dK kvs=>obtain⟨_,_,_,_,o,_,_,e,_⟩:=x;exact lt_size e
 |dT kvs=>obtain⟨_,_,_,_,o,_,_,e,_⟩:=x;exact lt_size e
 |set S n=>obtain⟨o,_,_,_,e,_⟩:=x;exact lt_size e
 |ins C dx fs=>obtain⟨_,_,_,e,_⟩:=x;exact lt_size e
 |own y=>obtain⟨_,e⟩:=x;exact lt_size e
 |xd fs=>obtain⟨_,⟨_,_,_,e,_⟩,_⟩:=x;exact lt_size e
 |rng lo hi=>obtain⟨_,_,_,e⟩:=x;exact lt_size e
 |frz ob u=>obtain⟨e,_⟩:=x;exact lt_size e
 |tbl ps=>exact lt_size (show h.get? a=some _ from x)
 |tab good=>obtain⟨_,e,_⟩:=x;exact lt_size e
 |fnc c q=>obtain⟨⟨_,e⟩,_⟩:=x;exact lt_size e
 |met f y=>exact lt_size (show h.get? a=some _ from x)
 |ext φ=>obtain⟨_,⟨_,e⟩,_⟩:=x;exact lt_size e
theorem Paired.mapP{α β:Type}{F G:α->β->Prop}:∀{l₁:List α}{l₂:List β},Paired F l₁ l₂->(∀a b,F a b->G a b)->Paired G l₁ l₂
 |_,_,.nil,_=>.nil
 |_,_,.cons r t,f=>.cons (f _ _ r) (Paired.mapP t f)
theorem ck.stay(x:ck P w H h a o)(k:∀b u,(b=a\/H b=some (.own a))->h.get? b=some u->h'.get? b=some u)
  (ho:∀b,H b=some (.own a)->H' b=some (.own a)) (ht:∀b xs,H b=some (.tup xs)->H' b=some (.tup xs)) (hf:∀b ob y,H b=some (.frz ob (.own y))->H' b=some (.frz ob (.own y))):ck P w H' h' a o:=by
 induction o with
 |lst xs=>obtain⟨z,its,n,r,e⟩:=x;exact⟨z,its,n,r,k _ _ (.inl rfl) e⟩
 |tup xs=>obtain⟨z,its,r,ob,e,c⟩:=x;exact⟨z,its,r,ob,k _ _ (.inl rfl) e,c⟩
 |dK kvs=>obtain⟨z,y,vs,r,ob,es,ep,e,c⟩:=x;exact⟨z,y,vs,r,ob,es,ep,k _ _ (.inl rfl) e,c⟩
 |dT kvs=>
  obtain⟨z,y,xs,r,ob,es,ep,e,c⟩:=x;exact⟨z,y,xs,Paired.mapP r λp q z=>⟨z.1,ht _ _ z.2.1,z.2.2⟩,ob,es,ep,k _ _ (.inl rfl) e,c⟩
 |set S n=>obtain⟨ob,es,ep,t,e,c⟩:=x;exact⟨ob,es,ep,t,k _ _ (.inl rfl) e,c⟩
 |ins C dx fs=>
  obtain⟨d,z,ne,e,mA,⟨od,es,ep,e2,c⟩,r⟩:=x;exact⟨ho _ d,z,ne,k _ _ (.inl rfl) e,mA,⟨od,es,ep,k _ _ (.inr d) e2,c⟩,r⟩
 |own y=>obtain⟨ob,e⟩:=x;exact⟨ob,k _ _ (.inl rfl) e⟩
 |xd fs=>obtain⟨mA,⟨od,es,ep,e,c⟩,r⟩:=x;exact⟨mA,⟨od,es,ep,k _ _ (.inl rfl) e,c⟩,r⟩
 |rng lo hi=>obtain⟨t,u,v,e⟩:=x;exact⟨t,u,v,k _ _ (.inl rfl) e⟩
 |frz ob u ih=>obtain⟨e,q⟩:=x;exact⟨k _ _ (.inl rfl) e,ih q⟩
 |tbl ps=>
  have e:h.get? a=some {cls:=.none,data:=.fields ps}:=x;show h'.get? a=some {cls:=.none,data:=.fields ps};exact k a _ (.inl rfl) e
 |tab good=>
  obtain⟨ps,e,tr,q⟩:=x;refine⟨ps,k a _ (.inl rfl) e,tr,λp cv hg hc=>?_⟩;obtain⟨c,oc,qq,vs,t,e1,e2,e3⟩:=q p cv hg hc;exact⟨c,oc,qq,vs,t,e1,hf _ _ _ e2,e3⟩
 |fnc c q=>
  obtain⟨⟨ob,e⟩,oc,vs,t,e1,e2⟩:=x;exact⟨⟨ob,k _ _ (.inl rfl) e⟩,oc,vs,t,hf _ _ _ e1,e2⟩
 |met f y=>
  have e:h.get? a=some (methodObj (.ref f) (.ref y)):=x;show h'.get? a=some (methodObj (.ref f) (.ref y));exact k a _ (.inl rfl) e
 |ext φ=>obtain⟨p,⟨o,e⟩,st⟩:=x;exact⟨st _ _ p λo q=>k _ _ (.inl rfl) q,⟨o,k _ _ (.inl rfl) e⟩,st⟩
theorem lV.lt(x:lV P w H h)(e:H a=some o):a<h.objs.size:=(x a o e).lt
theorem lV.fresh(x:lV P w H h)(e:h.objs.size<=a):H a=none:=by
 cases q:H a with
 |none=>rfl
 |some u=>exact absurd (lt_of_lt_of_le (x.lt q) e) (lt_irrefl _)
theorem lV.kept(x:lV P w H h)(k:∀b u,h.get? b=some u->h'.get? b=some u):lV P w H h':=λa o e=>
 (x a o e).stay (λb u _ q=>k b u q) (λ_ q=>q) (λ_ _ q=>q) λ_ _ _ q=>q
theorem lV.laid(x:lV P w H h)(k:∀b u,h.get? b=some u->h'.get? b=some u)(hp:h.objs.size<=a)(new:ck P w (c8 H a o) h' a o):lV P w (c8 H a o) h':=λb u e=>by
 have hn:=x.fresh hp;by_cases hb:b=a
 ·subst hb;rw[aB] at e;cases e;exact new
 ·rw[av hb] at e;exact(x b u e).stay (λc v _ q=>k c v q) (λc q=>by rw[av (aG q hn)];exact q) (λc xs q=>by rw[av (aG q hn)];exact q) λc ob u q=>by rw[av (aG q hn)];exact q
end
def Rd(H:Hp)(a:Addr)(u:HO):Prop:=H a=some u\/∃o,H a=some (.frz o u)
theorem Rd.of{H:Hp}{a:Addr}{u:HO}(h:H a=some u):Rd H a u:=.inl h
theorem Rd.ok{P:Program}{w:World}{H:Hp}{h:Heap}{a:Addr}{u:HO}(r:Rd H a u)(x:lV P w H h):ck P w H h a u:=by
 rcases r with r|⟨o,r⟩
 ·exact x a u r
 ·obtain⟨_,q⟩:=x a _ r;exact q
def Kk:Option HO->Prop
 |some (.lst _)=>True
 |some (.dK _)=>True
 |some (.dT _)=>True
 |some (.set _ _)=>True
 |some (.ins _ _ _)=>True
 |some (.ext _)=>True
 |_=>False
section
variable{P:Program}{w:World}{H:Hp}{h h':Heap}{x e:Addr}{o':HO}
theorem lV.write(ok:lV P w H h)(mu:Kk (H x))(he:e=x\/H e=some (.own x))(k:∀b u,b≠e->h.get? b=some u->h'.get? b=some u)(heo:∃u,h'.get? e=some u)
  (new:ck P w (c8 H x o') h' x o'):lV P w (c8 H x o') h':=λb u q=>by
 have nown:∀c y,H c=some (.own y)->c≠x:=λc y r z=>by subst z;rw[r] at mu;exact mu
 have ntup:∀c xs,H c=some (.tup xs)->c≠x:=λc xs r z=>by subst z;rw[r] at mu;exact mu
 have nfrz:∀c ob u,H c=some (.frz ob u)->c≠x:=λc ob u r z=>by subst z;rw[r] at mu;exact mu
 by_cases hb:b=x
 ·subst hb;rw[aB] at q;cases q;exact new
 ·rw[av hb] at q;by_cases hbe:b=e
  ·have q':H b=some (.own x):=by
    rcases he with z|z
    ·exact absurd (hbe.trans z) hb
    ·rw[hbe];exact z
   rw[q] at q';cases q';obtain⟨v,hv⟩:=heo;exact⟨v,by rw[hbe];exact hv⟩
  ·refine(ok b u q).stay (λc v hc r=>k c v ?_ r) (λc r=>by rw[av (nown c b r)];exact r) (λc xs r=>by rw[av (ntup c xs r)];exact r) λc ob v r=>by rw[av (nfrz c ob _ r)];exact r
   rcases hc with rfl|hc
   ·exact hbe
   ·rintro rfl
    rcases he with z|z
    ·exact nown c b hc z
    ·rw[hc] at z;cases z;exact hb rfl
end
structure Un(fs ex:List Addr)(H H':Hp)(h h':Heap):Prop where
 keep:∀b o,h.get? b=some o->H b=none->b∉fs->b∉ex->h'.get? b=some o
 slot:∀b o,h.get? b=some o->H b=none->b∈fs->b∉ex->∃sl,h'.get? b=some {o with slots:=sl}
 free:∀b o,h.get? b=some o->H b=none->b∉ex->H' b=none
 there:∀b o,h.get? b=some o->b∉ex->∃o',h'.get? b=some o'
 tups:∀b xs,H b=some (.tup xs)->H' b=some (.tup xs)
 frzs:∀b o u,H b=some (.frz o u)->H' b=some (.frz o u)
 tbls:∀b ps,H b=some (.tbl ps)->∃more,H' b=some (.tbl (ps++more))
section
variable{fs fs' ex ex':List Addr}{H H1 H2:Hp}{h h1 h2 h':Heap}{a x e:Addr}{o:HO}
theorem Un.any(u:Un fs ex H H1 h h1){b:Addr}{ob:Obj}(q:h.get? b=some ob)(n:H b=none)(hx:b∉ex):∃sl,h1.get? b=some {ob with slots:=sl}:=by
 by_cases hb:b∈fs
 ·exact u.slot b ob q n hb hx
 ·exact⟨ob.slots,u.keep b ob q n hb hx⟩
theorem Un.trans(a:Un fs ex H H1 h h1)(b:Un fs ex H1 H2 h1 h2):Un fs ex H H2 h h2 where
 keep:=λc ob q n hc hx=>b.keep c ob (a.keep c ob q n hc hx) (a.free c ob q n hx) hc hx
 slot:=λc ob q n hc hx=>by
  obtain⟨sl,e1⟩:=a.slot c ob q n hc hx;obtain⟨sl',e2⟩:=b.slot c _ e1 (a.free c ob q n hx) hc hx;exact⟨sl',e2⟩
 free:=λc ob q n hx=>by
  obtain⟨o',e1⟩:=a.there c ob q hx;exact b.free c o' e1 (a.free c ob q n hx) hx
 there:=λc ob q hx=>by
  obtain⟨o',e1⟩:=a.there c ob q hx;exact b.there c o' e1 hx
 tups:=λc xs q=>b.tups c xs (a.tups c xs q)
 frzs:=λc ob xs q=>b.frzs c ob xs (a.frzs c ob xs q)
 tbls:=λc ps q=>by
  obtain⟨m1,e1⟩:=a.tbls c ps q;obtain⟨m2,e2⟩:=b.tbls c _ e1;exact⟨m1++m2,by rw[e2,Array.append_assoc]⟩
theorem Un.kept(k:∀b u,h.get? b=some u->h'.get? b=some u):Un fs ex H H h h':=
 ⟨λb ob q _ _ _=>k b ob q,λb ob q _ _ _=>⟨ob.slots,k b ob q⟩,λ_ _ _ n _=>n,λb ob q _=>⟨ob,k b ob q⟩,λ_ _ q=>q,λ_ _ _ q=>q,λ_ ps q=>⟨#[],by rw[q];simp⟩⟩
theorem Un.refl:Un fs ex H H h h:=Un.kept λ_ _ q=>q
theorem Un.laid(k:∀b u,h.get? b=some u->h'.get? b=some u)(hp:h.objs.size<=a)(hn:H a=none):Un fs ex H (c8 H a o) h h' where
 keep:=λb u q _ _ _=>k b u q
 slot:=λb u q _ _ _=>⟨u.slots,k b u q⟩
 free:=λb u q n _=>by rw[av (ne_of_lt (lt_of_lt_of_le (lt_size q) hp))];exact n
 there:=λb u q _=>⟨u,k b u q⟩
 tups:=λb xs q=>by rw[av (aG q hn)];exact q
 frzs:=λb u xs q=>by rw[av (aG q hn)];exact q
 tbls:=λb ps q=>⟨#[],by rw[av (aG q hn),q];simp⟩
theorem Un.write(mu:Kk (H x))(he:e=x\/H e=some (.own x))(k:∀b u,b≠e->h.get? b=some u->h'.get? b=some u)(heo:∃u,h'.get? e=some u):Un fs ex H (c8 H x o) h h':=by
 have hx:∀b,H b=none->b≠x:=λb n z=>by subst z;rw[n] at mu;exact mu
 have hb:∀b,H b=none->b≠e:=λb n z=>by
  subst z;rcases he with r|r
  ·exact hx b n r
  ·rw[n] at r;cases r
 have hm:∀b u,H b=some u->¬Kk (some u)->b≠x:=λb u q nm z=>by subst z;rw[q] at mu;exact nm mu
 refine⟨λb u q n _ _=>k b u (hb b n) q,λb u q n _ _=>⟨u.slots,k b u (hb b n) q⟩,λb u q n _=>by rw[av (hx b n)];exact n,λb u q _=>?_,
  λb xs q=>by rw[av (hm b _ q λz=>z)];exact q,λb u xs q=>by rw[av (hm b _ q λz=>z)];exact q,λb ps q=>⟨#[],by rw[av (hm b _ q λz=>z),q];simp⟩⟩
 by_cases hbe:b=e
 ·subst hbe;exact heo
 ·exact⟨u,k b u hbe q⟩
theorem Un.mono(u:Un fs ex H H1 h h1)(hs:∀b∈fs,b∈fs')(hx:∀b∈ex,b∈ex'):Un fs' ex' H H1 h h1:=
 ⟨λb ob q n hb he=>u.keep b ob q n (λz=>hb (hs b z)) λz=>he (hx b z),λ_ _ q n _ he=>u.any q n λz=>he (hx _ z),λb ob q n he=>u.free b ob q n λz=>he (hx b z),λb ob q he=>u.there b ob q λz=>he (hx b z),u.tups,u.frzs,u.tbls⟩
end
def Ko(h:Heap)(H:Hp):List Addr:=(List.range h.objs.size).filter λa=>(H a).isSome
def lI(h:Heap)(H:Hp):Heap:=PySem.W.hideAll h (Ko h H)
theorem tG(h:Heap)(H:Hp):(lI h H).objs.size=h.objs.size:=PySem.W.hideAll_size _ _
theorem xo{h:Heap}{H:Hp}{b:Addr}{o:Obj}(e:h.get? b=some o)(n:H b=none):(lI h H).get? b=some o:=
 PySem.W.hideAll_get _ e λhm=>by
  have q:(H b).isSome=true:=(mem_filter.mp hm).2;rw[n] at q;simp at q
theorem Ax{h:Heap}{H:Hp}{b:Addr}{o:Obj}(e:(lI h H).get? b=some o):h.get? b=some o/\H b=none:=by
 have e':h.get? b=some o:=PySem.W.of_hideAll (Ko h H) e;refine⟨e',?_⟩;cases q:H b with
 |none=>rfl
 |some x=>
  have hm:b∈Ko h H:=mem_filter.mpr ⟨mem_range.mpr (lt_size e'),by simp[q]⟩
  have z:(lI h H).get? b=none:=PySem.W.hideAll_none (Ko h H) hm;rw[z] at e;cases e
def GE(g h:Heap)(L:Addr):List (Addr×Obj):=(List.range h.objs.size).filterMap λa=>if a=L\/(g.get? a).isSome=true then none else(h.get? a).map λo=>(a,o)
def rest(g h:Heap)(L d:Addr):List (Addr×Obj):=(GE g h L).filter λp=>decide (p.1≠d)
structure Mod(K:Frag)(mg:Str->Option Value)(base:Heap):Prop where
 kin:K.In base
 glob:base.Ns mainGlobals mg
 blt:∃mb,base.Ns builtinsNs mb/\∀x:Str,x ≠ "__name__" -> mb x=bootBuiltins x
 nolimit:base.NoLimit
structure Cx where
 prog:Program
 w:World
 K:Frag
 mg:Str->Option Value
 base:Heap
 A:Around
 N:List Str
 s₀:Shared
 H₀:Hp
 env:Env
 outer:List Env
 stack:List Env
 ex:List Addr
 fn:Str->Bool
 calm:Bool
 pn:List (Addr×Obj)
 xe:Value->Shared->Prop
def frs(l:List Env):List Addr:=l.filterMap (·.frame)
abbrev Cx.fs(X:Cx):List Addr:=frs X.outer
def Ki(sc:Scope)(x:Str):Prop:=sc.names.lookup x=some .local\/sc.names.lookup x=some .cell\/sc.names.lookup x=some .free
def yd(sc:Scope)(x:Str):Prop:=sc.names.lookup x=some .local\/sc.names.lookup x=some .cell
def Jh(env:Env)(h:Heap)(m:Str->Option Value)(x:Str)(u:Value):Prop:=
 (env.kindOf x=some .local/\m x=some u)\/((env.kindOf x=some .cell\/env.kindOf x=some .free)/\∃c,env.cells.lookup x=some c/\h.IsCell c (some u))
structure Cx.Ok(X:Cx):Prop where
 mod:Mod X.K X.mg X.base
 kind:X.env.scope.kind=.function
 glob:X.env.globals=mainGlobals
 blt:X.env.builtins=builtinsNs
 above:X.s₀.heap.objs.size<=X.env.locals
 inj:∀x y c,X.env.cells.lookup x=some c->X.env.cells.lookup y=some c->x=y
 has:∀x,(X.env.kindOf x=some .cell\/X.env.kindOf x=some .free)->∃c,X.env.cells.lookup x=some c
 cab:∀x c,X.fn x=true->X.env.cells.lookup x=some c->X.s₀.heap.objs.size<=c
 hd:X.calm=true->X.A.handled=none
 frames:X.A.frames=some X.stack
 stk:X.stack=X.outer\/(X.stack=X.env::X.outer/\X.env.frame=some X.env.locals)
 exf:∀b∈X.ex,b≠X.env.locals/\∀x c,X.env.cells.lookup x=some c->c≠b
 bs:∀b o,X.base.get? b=some o->X.s₀.heap.get? b=some o/\X.H₀ b=none
 bsz:X.base.objs.size<=X.s₀.heap.objs.size
 noex:∀b o,X.base.get? b=some o->b∉X.ex
 exfs:∀b∈X.ex,b∉X.fs
 funs:X.s₀.heap.FunFrames X.base X.outer
 frf:∀b∈X.fs,X.H₀ b=none
structure aC(X:Cx)(pins:List (Addr×Obj))(σ:List (Option V))(H:Hp)(s:Shared):Prop where
 ok:X.Ok
 os:s.os=X.s₀.os
 bare:AllBare s.gens
 base:Un X.fs X.ex X.H₀ H X.s₀.heap s.heap
 loc:∃m,s.heap.Ns X.env.locals m/\∀(i:Nat)(x:Str)(v:V),X.N[i]?=some x->σ[i]?=some (some v)->Ki X.env.scope x->∃u,RelV v u/\Jh X.env s.heap m x u
 cell:∀x c,X.env.cells.lookup x=some c->∃v,s.heap.IsCell c v
 free:H X.env.locals=none
 freeC:∀x c,X.env.cells.lookup x=some c->H c=none
 pin:∀p∈X.pn++pins,s.heap.get? p.1=some p.2/\H p.1=none/\p.1≠X.env.locals/\p.1∉X.fs/\∀v,p.2.data≠.cell v
 hok:lV X.prog X.w H s.heap
 len:σ.length=X.N.length
section
variable{X:Cx}{pins:List (Addr×Obj)}{σ:List (Option V)}{H H':Hp}{s:Shared}{h':Heap}
theorem Cx.Ok.nofr(ok:X.Ok){b:Addr}{o:Obj}(e:X.base.get? b=some o):b∉X.fs:=λhb=>by
 have:=(ok.funs.mem hb).1;rw[e] at this;cases this
theorem aC.bs(I:aC X pins σ H s):∀b o,X.base.get? b=some o->s.heap.get? b=some o/\H b=none:=λb o e=>
 ⟨I.base.keep b o (I.ok.bs b o e).1 (I.ok.bs b o e).2 (I.ok.nofr e) (I.ok.noex b o e),I.base.free b o (I.ok.bs b o e).1 (I.ok.bs b o e).2 (I.ok.noex b o e)⟩
theorem aC.bk(I:aC X pins σ H s):∀b o,X.base.get? b=some o->s.heap.get? b=some o:=λb o e=>(I.bs b o e).1
theorem aC.mod(I:aC X pins σ H s):Mod X.K X.mg X.base:=I.ok.mod
theorem aC.kIn(I:aC X pins σ H s):X.K.In s.heap:=I.ok.mod.kin.keeps I.bk
theorem aC.nolimit(I:aC X pins σ H s):s.heap.NoLimit:=I.ok.mod.nolimit.keeps I.bk
theorem aC.fr(I:aC X pins σ H s):∃m,Fr X.base X.env.locals s.heap m:=
 let ⟨m,hn,_⟩:=I.loc
 ⟨m,hn,I.bk,le_trans I.ok.bsz I.ok.above⟩
theorem aC.lt(I:aC X pins σ H s):X.env.locals<s.heap.objs.size:=let ⟨_,hn,_⟩:=I.loc;hn.lt
theorem aC.sz(I:aC X pins σ H s):X.s₀.heap.objs.size<=s.heap.objs.size:=le_trans I.ok.above (le_of_lt I.lt)
theorem aC.nofs(I:aC X pins σ H s){a:Addr}(h:s.heap.objs.size<=a):a∉X.fs:=λhb=>by
 obtain⟨_,o,ho,_⟩:=I.ok.funs.mem hb;exact absurd (lt_of_lt_of_le (lt_size ho) (le_trans I.sz h)) (lt_irrefl _)
theorem aC.cne(I:aC X pins σ H s):∀x c,X.env.cells.lookup x=some c->c≠X.env.locals:=λx c e z=>by
 obtain⟨v,o,ho,hd⟩:=I.cell x c e;obtain⟨m,⟨o',es,ep,ho',hd',_⟩,_⟩:=I.loc;rw[z,ho'] at ho;cases ho;rw[hd'] at hd;cases hd
theorem aC.funs(I:aC X pins σ H s):s.heap.FunFrames X.base X.outer:=by
 have all:∀(l:List Env),(∀b∈frs l,b∈X.fs)->X.s₀.heap.FunFrames X.base l->s.heap.FunFrames X.base l:=by
  intro l
  induction l with
  |nil=>intro _ _;trivial
  |cons env r ih=>
   intro hs hl;obtain⟨hk,⟨L,o,hf,hn,ho,hd⟩,hr⟩:=hl;have hL:L∈X.fs:=hs L (by unfold frs;rw[List.filterMap_cons,hf];exact mem_cons_self)
   obtain⟨sl,e⟩:=I.base.slot L o ho (I.ok.frf L hL) hL λz=>I.ok.exfs L z hL;exact⟨hk,⟨L,_,hf,hn,e,hd⟩,ih (λb hb=>hs b (by unfold frs;rw[List.filterMap_cons,hf];exact mem_cons_of_mem _ hb)) hr⟩
 exact all X.outer (λ_ hb=>hb) I.ok.funs
theorem aC.stack(I:aC X pins σ H s):s.heap.FunFrames X.base X.stack:=by
 rcases I.ok.stk with e|⟨e,hf⟩
 ·rw[e];exact I.funs
 ·rw[e];obtain⟨m,hn,_⟩:=I.loc;refine .cons (by rw[I.ok.kind];decide) hf hn ?_ I.funs
  exact Heap.get?_none_of_le (le_trans I.ok.bsz I.ok.above)
theorem aC.stkSub(I:aC X pins σ H s):∀b∈frs X.stack,b∈X.env.locals::X.fs:=λb hb=>by
 rcases I.ok.stk with e|⟨e,hf⟩
 ·rw[e] at hb;exact mem_cons_of_mem _ hb
 ·rw[e] at hb;unfold frs at hb;rw[List.filterMap_cons,hf] at hb;exact hb
theorem aC.stkFree(I:aC X pins σ H s):∀b∈frs X.stack,H b=none:=λb hb=>by
 rcases mem_cons.mp (I.stkSub b hb) with e|hb
 ·rw[e];exact I.free
 ·obtain⟨_,o,ho,_⟩:=I.ok.funs.mem hb;exact I.base.free b o ho (I.ok.frf b hb) λz=>I.ok.exfs b z hb
theorem aC.step{g':Array GenState}{t':Nat}{d':Drawn}{ch:List Addr}(I:aC X pins σ H s)
  (hch:∀b∈ch,(b∈X.ex\/X.s₀.heap.objs.size<=b)/\b≠X.env.locals/\(∀x c,X.env.cells.lookup x=some c->c≠b)/\∀p∈X.pn++pins,p.1≠b)
  (keep:∀b o,b≠X.env.locals->b∉X.fs->b∉ch->s.heap.get? b=some o->H b=none->h'.get? b=some o)
  (slot:∀b o,b≠X.env.locals->b∈X.fs->b∉ch->s.heap.get? b=some o->H b=none->∃sl,h'.get? b=some {o with slots:=sl}) (free:∀b o,b∉ch->s.heap.get? b=some o->H b=none->H' b=none)
  (there:∀b o,b∉ch->s.heap.get? b=some o->∃o',h'.get? b=some o')
  (tups:∀b xs,H b=some (.tup xs)->H' b=some (.tup xs)) (frzs:∀b o u,H b=some (.frz o u)->H' b=some (.frz o u)) (tbls:∀b ps,H b=some (.tbl ps)->∃more,H' b=some (.tbl (ps++more)))
  (ns:∀m,s.heap.Ns X.env.locals m->h'.Ns X.env.locals m) (hok:lV X.prog X.w H' h') (hg:AllBare g'):
  aC X pins σ H' {s with heap:=h',gens:=g',drawn:=d',toks:=t'}:=by
 have neL:∀b o,X.s₀.heap.get? b=some o->b≠X.env.locals:=λb o e=>ne_of_lt (lt_of_lt_of_le (lt_size e) I.ok.above);have neC:∀b o,X.s₀.heap.get? b=some o->b∉X.ex->b∉ch:=λb o e hx hb=>by
  rcases(hch b hb).1 with z|z
  ·exact hx z
  ·exact absurd (lt_of_lt_of_le (lt_size e) z) (lt_irrefl _)
 have cellK:∀x c,X.env.cells.lookup x=some c->∀v,s.heap.IsCell c v->h'.IsCell c v:=λx c e v ⟨o,ho,hd⟩=>by
  have nch:c∉ch:=λz=>(hch c z).2.2.1 x c e rfl;by_cases hc:c∈X.fs
  ·obtain⟨sl,q⟩:=slot c o (I.cne x c e) hc nch ho (I.freeC x c e);exact⟨_,q,hd⟩
  ·exact⟨o,keep c o (I.cne x c e) hc nch ho (I.freeC x c e),hd⟩
 refine⟨I.ok,I.os,hg,⟨λb o e n hb hx=>?_,λb o e n hb hx=>?_,λb o e n hx=>?_,λb o e hx=>?_,λb xs e=>tups b xs (I.base.tups b xs e),λb o xs e=>frzs b o xs (I.base.frzs b o xs e),λb ps e=>?_⟩,?_,λx c e=>?_,?_,λx c e=>?_,λp hp=>?_,hok,I.len⟩
 ·exact keep b o (neL b o e) hb (neC b o e hx) (I.base.keep b o e n hb hx) (I.base.free b o e n hx)
 ·obtain⟨sl,e1⟩:=I.base.slot b o e n hb hx;obtain⟨sl',e2⟩:=slot b _ (neL b o e) hb (neC b o e hx) e1 (I.base.free b o e n hx);exact⟨sl',e2⟩
 ·obtain⟨o',e1⟩:=I.base.there b o e hx;exact free b o' (neC b o e hx) e1 (I.base.free b o e n hx)
 ·obtain⟨o',e1⟩:=I.base.there b o e hx;exact there b o' (neC b o e hx) e1
 ·obtain⟨m1,e1⟩:=I.base.tbls b ps e;obtain⟨m2,e2⟩:=tbls b _ e1;exact⟨m1++m2,by rw[e2,Array.append_assoc]⟩
 ·obtain⟨m,hn,hl⟩:=I.loc;refine⟨m,ns m hn,λi x v e1 e2 e3=>?_⟩;obtain⟨u,r,l⟩:=hl i x v e1 e2 e3;refine⟨u,r,?_⟩;rcases l with l|⟨k,c,e,z⟩
  ·exact .inl l
  ·exact .inr ⟨k,c,e,cellK x c e _ z⟩
 ·obtain⟨v,z⟩:=I.cell x c e;exact⟨v,cellK x c e v z⟩
 ·obtain⟨m,⟨o,_,_,ho,_⟩,_⟩:=I.loc;exact free _ o (λz=>(hch _ z).2.1 rfl) ho I.free
 ·obtain⟨v,o,ho,hd⟩:=I.cell x c e;exact free c o (λz=>(hch c z).2.2.1 x c e rfl) ho (I.freeC x c e)
 ·obtain⟨e,n,ne,nf,d⟩:=I.pin p hp;have nch:p.1∉ch:=λz=>(hch p.1 z).2.2.2 p hp rfl;exact⟨keep p.1 p.2 ne nf nch e n,free p.1 p.2 nch e n,ne,nf,d⟩
theorem aC.un{t':Nat}(I:aC X pins σ H s)(u:Un X.fs [] H H' s.heap h')(hok:lV X.prog X.w H' h'):aC X pins σ H' {s with heap:=h',toks:=t'}:=by
 obtain⟨m,⟨o,es,ep,ho,r⟩,_⟩:=id I.loc;obtain⟨sl,hL⟩:=u.any ho I.free (by simp)
 exact I.step (g':=s.gens) (d':=s.drawn) (ch:=[]) (λ_ z=>nomatch z) (λb o _ hb _ e n=>u.keep b o e n hb (by simp)) (λb o _ hb _ e n=>u.slot b o e n hb (by simp)) (λb o _ e n=>u.free b o e n (by simp)) (λb o _ e=>u.there b o e (by simp)) u.tups u.frzs u.tbls (λm' hm=>by
  obtain⟨o',es',ep',ho',r'⟩:=hm;rw[ho] at ho';cases ho';exact⟨_,es',ep',hL,r'⟩) hok I.bare
theorem aC.call{g':Array GenState}{t':Nat}{d':Drawn}{ch:List Addr}(I:aC X pins σ H s)(u:Un (frs X.stack) ch H H' s.heap h')(hok:lV X.prog X.w H' h')(hg:AllBare g')
  (hch:∀b∈ch,(b∈X.ex\/X.s₀.heap.objs.size<=b)/\b≠X.env.locals/\(∀x c,X.env.cells.lookup x=some c->c≠b)/\∀p∈X.pn++pins,p.1≠b):
  aC X pins σ H' {s with heap:=h',gens:=g',drawn:=d',toks:=t'}:=by
 obtain⟨m,⟨o,es,ep,ho,r⟩,_⟩:=id I.loc;obtain⟨sl,hL⟩:=u.any ho I.free λz=>(hch _ z).2.1 rfl;exact I.step (ch:=ch) hch (λb o hL hb hc e n=>u.keep b o e n (λz=>(mem_cons.mp (I.stkSub b z)).elim hL hb) hc) (λb o _ _ hc e n=>u.any e n hc) (λb o hc e n=>u.free b o e n hc) (λb o hc e=>u.there b o e hc) u.tups u.frzs u.tbls (λm' hm=>by
  obtain⟨o',es',ep',ho',r'⟩:=hm;rw[ho] at ho';cases ho';exact⟨_,es',ep',hL,r'⟩) hok hg
theorem aC.turned{t':Nat}{it:Addr}(I:aC X pins σ H s)(k:∀b o,b≠it->s.heap.get? b=some o->h'.get? b=some o)(hn:H it=none)(hL:it≠X.env.locals)
  (h1:it∈X.ex\/X.s₀.heap.objs.size<=it) (h2:∀x c,X.env.cells.lookup x=some c->c≠it) (h3:∀p∈X.pn++pins,p.1≠it):aC X pins σ H {s with heap:=h',toks:=t'}:=by
 have nit:∀b u,H b=some u->b≠it:=λb u e z=>by rw[z,hn] at e;cases e
 refine I.step (g':=s.gens) (d':=s.drawn) (ch:=[it]) (λb hb=>?_) (λb o _ _ hc e _=>k b o (λz=>hc (by simp[z])) e) (λb o _ _ hc e _=>⟨o.slots,k b o (λz=>hc (by simp[z])) e⟩) (λ_ _ _ _ n=>n)
  (λb o hc e=>⟨o,k b o (λz=>hc (by simp[z])) e⟩) (λ_ _ e=>e) (λ_ _ _ e=>e) (λb ps e=>⟨#[],by rw[e];simp⟩) (λm hm=>?_) (λb u e=>?_) I.bare
 ·have e:b=it:=by simpa using hb
  subst e;exact⟨h1,hL,h2,h3⟩
 ·obtain⟨o,es,ep,ho,r⟩:=hm;exact⟨o,es,ep,k _ o (Ne.symm hL) ho,r⟩
 ·refine(I.hok b u e).stay (λc v hc q=>k c v ?_ q) (λ_ q=>q) (λ_ _ q=>q) λ_ _ _ q=>q;rcases hc with z|z
  ·rw[z];exact nit b u e
  ·exact nit c _ z
theorem aC.tok(I:aC X pins σ H s)(t:Nat):aC X pins σ H {s with toks:=t}:=I.un (h':=s.heap) (t':=t) Un.refl I.hok
theorem aC.kept{t':Nat}(I:aC X pins σ H s)(k:∀b u,s.heap.get? b=some u->h'.get? b=some u):aC X pins σ H {s with heap:=h',toks:=t'}:=I.un (Un.kept k) (I.hok.kept k)
theorem aC.laid{a:Addr}{o:HO}{t':Nat}(I:aC X pins σ H s)(k:∀b u,s.heap.get? b=some u->h'.get? b=some u)(hp:s.heap.objs.size<=a)(new:ck X.prog X.w (c8 H a o) h' a o):
  aC X pins σ (c8 H a o) {s with heap:=h',toks:=t'}:=I.un (Un.laid k hp (I.hok.fresh hp)) (I.hok.laid k hp new)
theorem aC.write{x e:Addr}{o:HO}{t':Nat}(I:aC X pins σ H s)(mu:Kk (H x))(he:e=x\/H e=some (.own x))(k:∀b u,b≠e->s.heap.get? b=some u->h'.get? b=some u)(heo:∃u,h'.get? e=some u)
  (new:ck X.prog X.w (c8 H x o) h' x o):aC X pins σ (c8 H x o) {s with heap:=h',toks:=t'}:=I.un (Un.write mu he k heo) (I.hok.write mu he k heo new)
theorem aC.pins_of{pins':List (Addr×Obj)}(I:aC X pins σ H s)(h:∀p∈pins',s.heap.get? p.1=some p.2/\H p.1=none/\p.1≠X.env.locals/\p.1∉X.fs/\∀v,p.2.data≠.cell v):aC X pins' σ H s:=
 ⟨I.ok,I.os,I.bare,I.base,I.loc,I.cell,I.free,I.freeC,λp hp=>(mem_append.mp hp).elim (λz=>I.pin p (List.mem_append_left _ z)) (h p),I.hok,I.len⟩
theorem wK{N:List Str}(hN:N.Nodup){i j:Nat}{x:Str}(a:N[i]?=some x)(b:N[j]?=some x):i=j:=by
 obtain⟨h1,e1⟩:=List.getElem?_eq_some_iff.mp a;obtain⟨h2,e2⟩:=List.getElem?_eq_some_iff.mp b;exact(List.getElem_inj hN).mp (e1.trans e2.symm)
theorem sP{M:Model}{A:Around}{E:Value->Shared->Prop}{i:Nat}{x:Str}{v:V}{u:Value}{Q:Unit->Shared->Prop}(I:aC X pins σ H s)(hN:X.N.Nodup)(hi:X.N[i]?=some x)(hx:yd X.env.scope x)(r:RelV v u)
  (h:∀s',aC X pins (σ.set i (some v)) H s'->(∃a,Heap.SameBut a s.heap s'.heap/\(a=X.env.locals\/X.env.cells.lookup x=some a))->Q () s') (hf:X.fn x=true\/X.env.scope.names.lookup x=some .local:=by first|exact .inl rfl|exact .inr rfl|assumption):wpAny M A (storeName X.env x u) Q E s:=by
 obtain⟨m,hn,hl⟩:=id I.loc;have hcls:(X.env.scope.kind == .class || (X.env.scope.kind == .module && X.env.locals != X.env.globals))=false:=by rw[I.ok.kind];rfl
 have hiσ:i<σ.length:=by rw[I.len];exact(List.getElem?_eq_some_iff.mp hi).1
 have cne:=I.cne;have tracked:∀{a:Addr}{h':Heap},(∃o,s.heap.get? a=some o/\H a=none)->Heap.SameBut a s.heap h'->lV X.prog X.w H h':=λ{a h'} ha hs b ob e=>by
  obtain⟨_,_,hfree⟩:=ha;refine(I.hok b ob e).stay (λc w' hc q=>(hs.2 c ?_).trans q) (λ_ q=>q) (λ_ _ q=>q) λ_ _ _ q=>q
  rintro rfl
  rcases hc with rfl|hc
  ·rw[hfree] at e;cases e
  ·rw[hfree] at hc;cases hc
 rcases hx with hk|hk
 ·refine wpAny_storeName_local hk hn (λh' hn' hs=>?_) hcls;obtain⟨oL,_,_,hoL,_⟩:=id hn;refine h _ ⟨I.ok,I.os,I.bare,⟨λb o e n hb hx=>?_,λb o e n hb hx=>?_,I.base.free,λb o e hx=>?_,I.base.tups,I.base.frzs,I.base.tbls⟩,⟨_,hn',λj y v' e1 e2 e3=>?_⟩,λy c e=>?_,I.free,I.freeC,λp hp=>?_,tracked ⟨oL,hoL,I.free⟩ hs,by simpa using I.len⟩ ⟨_,hs,.inl rfl⟩
  ·exact(hs.2 b (ne_of_lt (lt_of_lt_of_le (lt_size e) I.ok.above))).trans (I.base.keep b o e n hb hx)
  ·obtain⟨sl,e1⟩:=I.base.slot b o e n hb hx;exact⟨sl,(hs.2 b (ne_of_lt (lt_of_lt_of_le (lt_size e) I.ok.above))).trans e1⟩
  ·obtain⟨o',e1⟩:=I.base.there b o e hx;exact⟨o',(hs.2 b (ne_of_lt (lt_of_lt_of_le (lt_size e) I.ok.above))).trans e1⟩
  ·by_cases hj:j=i
   ·subst hj;rw[hi] at e1;cases e1;rw[getElem?_set_self hiσ] at e2;cases e2;exact⟨u,r,.inl ⟨hk,by simp⟩⟩
   ·rw[getElem?_set_ne (Ne.symm hj)] at e2;obtain⟨u',r',q⟩:=hl j y v' e1 e2 e3;refine⟨u',r',?_⟩;rcases q with⟨k,e⟩|⟨k,c,e,z⟩
    ·refine .inl ⟨k,?_⟩;have:y≠x:=λe=>hj (wK hN e1 (e▸hi));simp[this,e]
    ·exact .inr ⟨k,c,e,z.sameBut hs (cne y c e)⟩
  ·obtain⟨w',z⟩:=I.cell y c e;exact⟨w',z.sameBut hs (cne y c e)⟩
  ·obtain⟨e,n,ne,nf,d⟩:=I.pin p hp;exact⟨(hs.2 p.1 ne).trans e,n,ne,nf,d⟩
 ·have hfn:X.fn x=true:=by
   rcases hf with z|z
   ·exact z
   ·rw[z] at hk;cases hk
  obtain⟨c,hc⟩:=I.ok.has x (.inl hk);obtain⟨w',z⟩:=I.cell x c hc;refine wpAny_storeName_cell I.ok.kind hk hc z (λh' hc' hs=>?_);obtain⟨oc,hoc,hocd⟩:=id z;refine h {s with heap:=h'} ⟨I.ok,I.os,I.bare,⟨λb o e n hb hx=>?_,λb o e n hb hx=>?_,I.base.free,λb o e hx=>?_,I.base.tups,I.base.frzs,I.base.tbls⟩,⟨m,hn.sameBut hs (Ne.symm (cne x c hc)),λj y v' e1 e2 e3=>?_⟩,λy c' e=>?_,I.free,I.freeC,λp hp=>?_,tracked ⟨oc,hoc,I.freeC x c hc⟩ hs,by simpa using I.len⟩ ⟨c,hs,.inr hc⟩
  ·exact(hs.2 b (ne_of_lt (lt_of_lt_of_le (lt_size e) (I.ok.cab x c hfn hc)))).trans (I.base.keep b o e n hb hx)
  ·obtain⟨sl,e1⟩:=I.base.slot b o e n hb hx;exact⟨sl,(hs.2 b (ne_of_lt (lt_of_lt_of_le (lt_size e) (I.ok.cab x c hfn hc)))).trans e1⟩
  ·obtain⟨o',e1⟩:=I.base.there b o e hx;exact⟨o',(hs.2 b (ne_of_lt (lt_of_lt_of_le (lt_size e) (I.ok.cab x c hfn hc)))).trans e1⟩
  ·by_cases hj:j=i
   ·subst hj;rw[hi] at e1;cases e1;rw[getElem?_set_self hiσ] at e2;cases e2;exact⟨u,r,.inr ⟨.inl hk,c,hc,hc'⟩⟩
   ·rw[getElem?_set_ne (Ne.symm hj)] at e2;obtain⟨u',r',q⟩:=hl j y v' e1 e2 e3;refine⟨u',r',?_⟩;rcases q with q|⟨k,c',e,z'⟩
    ·exact .inl q
    ·refine .inr ⟨k,c',e,z'.sameBut hs ?_⟩
     rintro rfl
     exact hj (wK hN e1 (I.ok.inj _ _ _ e hc▸hi))
  ·by_cases hcc:c'=c
   ·subst hcc;exact⟨_,hc'⟩
   ·obtain⟨w2,z2⟩:=I.cell y c' e;exact⟨w2,z2.sameBut hs hcc⟩
  ·obtain⟨e,n,ne,nf,d⟩:=I.pin p hp;refine⟨(hs.2 p.1 ?_).trans e,n,ne,nf,d⟩;intro q;rw[q,hoc] at e;have q':oc=p.2:=Option.some.inj e;exact d w' (by rw[←q'];exact hocd)
theorem vY{M:Model}{A:Around}{E:Value->Shared->Prop}{i:Nat}{x:Str}{v:V}{u:Value}{Q:Unit->Shared->Prop}(I:aC X pins σ H s)(hN:X.N.Nodup)(hi:X.N[i]?=some x)(hx:yd X.env.scope x)(r:RelV v u)
  (h:∀s',aC X pins (σ.set i (some v)) H s'->Q () s') (hf:X.fn x=true\/X.env.scope.names.lookup x=some .local:=by first|exact .inl rfl|exact .inr rfl|assumption):wpAny M A (storeName X.env x u) Q E s:=
 sP I hN hi hx r (λs' I' _=>h s' I') hf
theorem aC.call'{s':Shared}{ch:List Addr}(I:aC X pins σ H s)(ho:s'.os=s.os)(u:Un (frs X.stack) ch H H' s.heap s'.heap)(hok:lV X.prog X.w H' s'.heap)(hg:AllBare s'.gens)
  (hch:∀b∈ch,(b∈X.ex\/X.s₀.heap.objs.size<=b)/\b≠X.env.locals/\(∀x c,X.env.cells.lookup x=some c->c≠b)/\∀p∈X.pn++pins,p.1≠b):aC X pins σ H' s':=by
 obtain⟨h',g',d',t',o'⟩:=s';have e:o'=s.os:=ho;subst e;exact I.call (g':=g') (t':=t') (d':=d') u hok hg hch
end
abbrev XK:=Value->Option Addr->Hp->Prop
abbrev St:=List (Option V)
abbrev VK:=V->Hp->Prop
abbrev TE:=St->Hp->VK->Prop
abbrev TT:=St->Hp->(Bool->Hp->Prop)->Prop
abbrev TA:=St->Hp->(List V->Hp->Prop)->Prop
structure pB where
 nx:St->Hp->Prop
 rt:VK
 bk:St->Hp->Prop:=λ_ _=>False
 ct:St->Hp->Prop:=λ_ _=>False
abbrev TS:=pB->St->Hp->Prop
def EP(X:Cx)(pins:List (Addr×Obj))(σ:St)(Q:VK)(u:Value)(s':Shared):Prop:=∃v H',aC X pins σ H' s'/\RelV v u/\Q v H'
def TP(X:Cx)(pins:List (Addr×Obj))(σ:St)(Q:Bool->Hp->Prop)(b:Bool)(s':Shared):Prop:=∃H',aC X pins σ H' s'/\Q b H'
def AP(X:Cx)(pins:List (Addr×Obj))(σ:St)(Q:List V->Hp->Prop)(us:List Value)(s':Shared):Prop:=∃vs H',aC X pins σ H' s'/\Vals vs us/\Q vs H'
def SP(X:Cx)(pins:List (Addr×Obj))(D:pB)(f:Flow)(s':Shared):Prop:=
 match f with
 |.next=>∃σ' H',aC X pins σ' H' s'/\D.nx σ' H'
 |.brk=>∃σ' H',aC X pins σ' H' s'/\D.bk σ' H'
 |.cont=>∃σ' H',aC X pins σ' H' s'/\D.ct σ' H'
 |.ret u=>∃v σ' H',aC X pins σ' H' s'/\RelV v u/\D.rt v H'
def PE(X:Cx)(e:Expr)(t:TE):Prop:=
 ∀(pins:List (Addr×Obj))(s:Shared)(σ:St)(H:Hp)(Q:VK),aC X pins σ H s->t σ H Q->wpAny (model X.prog X.w) X.A (eval e X.env) (EP X pins σ Q) X.xe s
def PT(X:Cx)(e:Expr)(t:TT):Prop:=
 ∀(pins:List (Addr×Obj))(s:Shared)(σ:St)(H:Hp)(Q:Bool->Hp->Prop),aC X pins σ H s->t σ H Q->wpAny (model X.prog X.w) X.A (isTrue e X.env (eval e X.env)) (TP X pins σ Q) X.xe s
def PW(X:Cx)(e:Expr)(t:TT):Prop:=
 ∀(whole:Sem Value)(pins:List (Addr×Obj))(s:Shared)(σ:St)(H:Hp)(Q:Bool->Hp->Prop),aC X pins σ H s->t σ H Q->wpAny (model X.prog X.w) X.A (isTrue e X.env whole) (TP X pins σ Q) X.xe s
theorem PW.pt{X:Cx}{e:Expr}{t:TT}(h:PW X e t):PT X e t:=h _
def PA(X:Cx)(es:List Expr)(t:TA):Prop:=
 ∀(pos:Pos)(pins:List (Addr×Obj))(s:Shared)(σ:St)(H:Hp)(Q:List V->Hp->Prop),aC X pins σ H s->t σ H Q->wpAny (model X.prog X.w) X.A (spliced (backTo pos (starEach es X.env))) (AP X pins σ Q) X.xe s
def PS(X:Cx)(st:Stmt)(t:TS):Prop:=
 ∀(pins:List (Addr×Obj))(s:Shared)(σ:St)(H:Hp)(D:pB),aC X pins σ H s->t D σ H->wpAny (model X.prog X.w) X.A (exec st X.env) (SP X pins D) X.xe s
def pQ(X:Cx)(st:List Stmt)(t:TS):Prop:=
 ∀(pins:List (Addr×Obj))(s:Shared)(σ:St)(H:Hp)(D:pB),aC X pins σ H s->t D σ H->wpAny (model X.prog X.w) X.A (execs st X.env) (SP X pins D) X.xe s
theorem dA{α:Type}{t:Sem α}{Q Q':α->Shared->Prop}{M:Model}{A:Around}{E:Value->Shared->Prop}{s:Shared}(h:wpAny M A t Q E s)(hQ:∀a s,Q a s->Q' a s):wpAny M A t Q' E s:=wpAny_mono h hQ λ_ _ x=>x
section
variable{X:Cx}
def nu(i:Nat):TE:=λσ H Q=>∃v,σ[i]?=some (some v)/\Q v H
def tC(v:V):TE:=λ_ H Q=>Q v H
theorem HK{i:Nat}{x:Str}{pos:Pos}(hN:X.N[i]?=some x)(hv:Ki X.env.scope x)(hd:(x == ("__debug__":Str))=false:=by decide)(hcd:(x == ("__classdict__":Str))=false:=by decide):PE X (.Name x pos) (nu i):=by
 intro pins s σ H Q I h;obtain⟨v,e,h⟩:=h;obtain⟨m,hn,hl⟩:=I.loc;obtain⟨u,r,l⟩:=hl i x v hN e hv;have fin:EP X pins σ Q u s:=⟨v,H,I,r,h⟩;rcases l with⟨hk,hm⟩|⟨hk,c,hc,hcell⟩
 ·exact wpAny_Name (wpAny_loadName_local I.ok.kind hk hn hm fin) hd
 ·rcases hk with hk|hk
  ·exact wpAny_Name (wpAny_loadName_cell I.ok.kind hk hc hcell fin) hd
  ·exact wpAny_Name (wpAny_loadName_free I.ok.kind hk hc hcell fin hcd) hd
theorem yQ{i j pos}:PE X (.Constant (.int i) j pos) (tC (.int i)):=λ_ _ _ H _ I h=>wpAny_Constant_int ⟨.int i,H,I.tok _,⟨_,rfl⟩,h⟩
theorem JM{b j pos}:PE X (.Constant (.bool b) j pos) (tC (.bl b)):=λ_ _ _ H _ I h=>Constant_bool ⟨.bl b,H,I,rfl,h⟩
theorem HP{j pos}:PE X (.Constant .none j pos) (tC .non):=λ_ _ _ H _ I h=>Constant_none ⟨.non,H,I,rfl,h⟩
theorem HL{x j pos}:PE X (.Constant (.str x) j pos) (tC (.str x)):=λ_ _ _ H _ I h=>Calls.Constant_str ⟨.str x,H,I.tok _,⟨_,rfl⟩,h⟩
def Gl(X:Cx)(x:Str):Prop:=X.env.kindOf x=some .globalImplicit
theorem pK{E:Value->Shared->Prop}{pins:List (Addr×Obj)}{s:Shared}{σ:St}{H:Hp}{x:Str}{u:Value}{pos:Pos}{Q:Value->Shared->Prop}(I:aC X pins σ H s)(hg:Gl X x)(hm:X.mg x=some u)(h:Q u s)
  (hd:(x == ("__debug__":Str))=false:=by decide):wpAny (model X.prog X.w) X.A (eval (.Name x pos) X.env) Q E s:=
 Calls.Name_function_global I.ok.kind hg (Calls.loadGlobal_global (by rw[I.ok.glob];exact I.mod.glob.keeps I.bk) hm h) hd
theorem lD{E:Value->Shared->Prop}{pins:List (Addr×Obj)}{s:Shared}{σ:St}{H:Hp}{x:Str}{u:Value}{pos:Pos}{Q:Value->Shared->Prop}(I:aC X pins σ H s)(hg:Gl X x)(hm:X.mg x=none)(hv:bootBuiltins x=some u)(h:Q u s)
  (hn:x ≠ "__name__" := by decide) (hd:(x == ("__debug__":Str))=false:=by decide):wpAny (model X.prog X.w) X.A (eval (.Name x pos) X.env) Q E s:=by
 obtain⟨mb,h1,h2⟩:=I.mod.blt;exact Calls.Name_function_global I.ok.kind hg (Calls.loadGlobal_builtin (by rw[I.ok.glob];exact I.mod.glob.keeps I.bk) hm (by rw[I.ok.blt];exact h1.keeps I.bk) ((h2 x hn).trans hv) h) hd
theorem FT{x:Str}{v:V}{u:Value}{pos:Pos}(hg:Gl X x)(hm:X.mg x=none)(hv:bootBuiltins x=some u)(r:RelV v u)(hn:x ≠ "__name__" := by decide)(hd:(x == ("__debug__":Str))=false:=by decide):PE X (.Name x pos) (tC v):=
 λ_ _ _ H _ I h=>lD I hg hm hv ⟨v,H,I,r,h⟩ hn hd
variable{a b:Expr}{ta tb:TE}{pos:Pos}
def PC(X:Cx)(op:CmpOp)(a b:Expr)(t:TE):Prop:=
 ∀(pins:List (Addr×Obj))(s:Shared)(σ:St)(H:Hp)(Q:VK),aC X pins σ H s->t σ H Q->
  wpAny (model X.prog X.w) X.A (eval a X.env) (λv s₁=>wpAny (model X.prog X.w) X.A (eval b X.env) (λu s₂=>wpAny (model X.prog X.w) X.A (compareOp op v u) (EP X pins σ Q) X.xe s₂) X.xe s₁) X.xe s
theorem E1(b:Expr){op:CmpOp}(h:op≠.In)(h2:op≠.NotIn):behindInMarks op b=false:=by
 have e1:(op == CmpOp.In)=false:=by cases op <;> first|rfl|exact absurd rfl h
 have e2:(op == CmpOp.NotIn)=false:=by cases op <;> first|rfl|exact absurd rfl h2
 cases b <;> simp[behindInMarks,e1,e2]
def tB(t:TE):TT:=λσ H Q=>t σ H λx H1=>∃c,x=.bl c/\Q c H1
theorem HF{op:CmpOp}{t:TE}(h:PC X op a b t)(h1:behindInMarks op b=false:=by first|exact E1 _ (by decide) (by decide)|rfl):PT X (.Compare a [op] [b] pos) (tB t):=by
 intro pins s σ H Q I hw;refine wpAny_isTrue_Compare1 (dA (h pins s σ H _ I hw) λv s1 h1=>dA h1 λu s2 h2=>dA h2 λc s3 ⟨x,H1,I1,r1,q1⟩=>?_) h1;obtain⟨d,rfl,q⟩:=q1;cases r1;exact wpAny_truthy_bool ⟨H1,I1,q⟩
theorem HD{e:Expr}{t:TE}(h:PE X e t)(he:∀whole,isTrue e X.env whole=(do let v ←whole;standAt e.pos;holding [v] (truthy v)):=by intro _;rfl):PT X e (tB t):=by
 intro pins s σ H Q I hw;refine isTrue_plain (dA (h pins s σ H _ I hw) λv s1 ⟨x,H1,I1,r1,q1⟩=>?_) (he _);obtain⟨d,rfl,q⟩:=q1;cases r1;exact wpAny_truthy_bool ⟨H1,I1,q⟩
variable{tA tB':TT}{rest:List Expr}
def KG(t u:TT):TT:=λσ H Q=>t σ H λc H1=>if c=true then u σ H1 Q else Q false H1
def Lv(t u:TT):TT:=λσ H Q=>t σ H λc H1=>if c=true then Q true H1 else u σ H1 Q
def Kz(t:TT):TT:=λσ H Q=>t σ H λc H1=>Q (!c) H1
theorem FC(ha:PT X a tA):PW X (.BoolOp .And [a] pos) tA:=by
 intro wh pins s σ H Q I h;refine isTrue_and (dA (ha pins s σ H Q I h) λc s1 e=>?_);cases c with
 |true=>exact isTrue_and_nil e
 |false=>exact e
theorem HA(ha:PT X a tA):PW X (.BoolOp .Or [a] pos) tA:=by
 intro wh pins s σ H Q I h;refine isTrue_or (dA (ha pins s σ H Q I h) λc s1 e=>?_);cases c with
 |false=>exact isTrue_or_nil e
 |true=>exact e
theorem HB(ha:PT X a tA)(hb:PW X (.BoolOp .And (b::rest) pos) tB'):PW X (.BoolOp .And (a::b::rest) pos) (KG tA tB'):=by
 intro wh pins s σ H Q I h;refine isTrue_and (dA (ha pins s σ H _ I h) λc s1 ⟨H1,I1,q1⟩=>?_);cases c with
 |true=>exact hb wh pins s1 σ H1 Q I1 q1
 |false=>exact⟨H1,I1,q1⟩
theorem JI(ha:PT X a tA)(hb:PW X (.BoolOp .Or (b::rest) pos) tB'):PW X (.BoolOp .Or (a::b::rest) pos) (Lv tA tB'):=by
 intro wh pins s σ H Q I h;refine isTrue_or (dA (ha pins s σ H _ I h) λc s1 ⟨H1,I1,q1⟩=>?_);cases c with
 |true=>exact⟨H1,I1,q1⟩
 |false=>exact hb wh pins s1 σ H1 Q I1 q1
theorem HE(ha:PT X a tA):PT X (.UnaryOp .Not a pos) (Kz tA):=by
 intro pins s σ H Q I h;exact isTrue_not (ha pins s σ H (λc H1=>Q (!c) H1) I h)
def Jx(ta tb:TE):TE:=λσ H Q=>ta σ H λx H1=>∃c,x=.bl c/\if c=true then tb σ H1 Q else Q (.bl false) H1
def Js(ta:TE):TE:=λσ H Q=>ta σ H λx H1=>∃c,x=.bl c/\Q (.bl (!c)) H1
theorem HM{op}{t:TE}(h:PE X a t):PE X (.BoolOp op [a] pos) t:=λpins s σ H Q I hw=>BoolOp_one (h pins s σ H Q I hw)
theorem HU(ha:PE X a ta)(hb:PE X (.BoolOp .And (b::rest) pos) tb):PE X (.BoolOp .And (a::b::rest) pos) (Jx ta tb):=by
 intro pins s σ H Q I h;refine BoolOp_and (dA (ha pins s σ H _ I h) λv s1 ⟨x,H1,I1,r1,q1⟩=>?_);obtain⟨c,rfl,q1⟩:=q1;cases r1;refine wpAny_truthy_bool ?_;cases c with
 |true=>exact hb pins s1 σ H1 Q I1 q1
 |false=>exact⟨.bl false,H1,I1,rfl,q1⟩
theorem HN(ha:PE X a ta):PE X (.UnaryOp .Not a pos) (Js ta):=by
 intro pins s σ H Q I h;refine UnaryOp_ (dA (ha pins s σ H _ I h) λv s1 ⟨x,H1,I1,r1,q1⟩=>?_);obtain⟨c,rfl,q1⟩:=q1;cases r1;exact not_of (wpAny_truthy_bool ⟨.bl (!c),H1,I1,rfl,q1⟩)
def Lw(t:TT)(ta tb:TE):TE:=λσ H Q=>t σ H λc H1=>if c=true then ta σ H1 Q else tb σ H1 Q
theorem DQ{c:Expr}(hc:PT X c tA)(ha:PE X a ta)(hb:PE X b tb):PE X (.IfExp c a b pos) (Lw tA ta tb):=by
 intro pins s σ H Q I h;refine wpAny_IfExp (dA (hc pins s σ H _ I h) λd s1 ⟨H1,I1,q1⟩=>?_);cases d with
 |true=>exact ha pins s1 σ H1 Q I1 q1
 |false=>exact hb pins s1 σ H1 Q I1 q1
end
def kY(K:Frag)(H:Hp)(a:Addr)(xs:List V):Prop:=
 Rd H a (.lst xs)\/
  ∃(o:Obj)(its:Array Value)(n:Nat),K.lookup a=some o/\o.cls=.type "list" /\ o.dict=none/\o.data=.seq its n/\its.size<=sizeLine/\Vals xs its.toList
def nh(K:Frag)(H:Hp)(a:Addr)(xs:List V):Prop:=
 Rd H a (.tup xs)\/
  ∃(o:Obj)(its:Array Value)(n:Nat),K.lookup a=some o/\o.cls=.type "tuple" /\ o.data=.seq its n/\its.size<=sizeLine/\Vals xs its.toList
def La:Value->Option V
 |.none=>some .non
 |.bool b=>some (.bl b)
 |.int i _=>some (.int i)
 |.str x _=>some (.str x)
 |.bytes b _=>some (.byt b)
 |.float b _=>some (.flt b)
 |.ref a=>some (.ref a)
 |.type n=>some (.ty n)
 |_=>none
theorem RelV.abs{x:V}{u:Value}(r:RelV x u):La u=some x:=by
 cases x with
 |non=>cases r;rfl
 |bl _=>cases r;rfl
 |ref _=>cases r;rfl
 |ty _=>cases r;rfl
 |_=>obtain⟨t,rfl⟩:=r;rfl
theorem RelV.inj{x y:V}{u:Value}(r:RelV x u)(q:RelV y u):x=y:=Option.some.inj (r.abs.symm.trans q.abs)
theorem Vals.inj:∀{xs ys:List V}{us:List Value},Vals xs us->Vals ys us->xs=ys
 |_,_,_,.nil,.nil=>rfl
 |_,_,_,.cons r t,.cons r' t'=>by rw[r.inj r',Vals.inj t t']
section
variable{X:Cx}{pins:List (Addr×Obj)}{σ:St}{H:Hp}{s:Shared}{a:Addr}{xs ys:List V}
theorem kY.of{K:Frag}(h:H a=some (.lst xs)):kY K H a xs:=.inl (.inl h)
theorem nh.of{K:Frag}(h:H a=some (.tup xs)):nh K H a xs:=.inl (.inl h)
theorem aC.list(I:aC X pins σ H s)(h:kY X.K H a xs):∃its:List Value,Vals xs its/\PlainL s.heap a its.toArray/\xs.length<=sizeLine:=by
 rcases h with h|⟨o,its,n,hk,hc,hd,hs,hz,r⟩
 ·obtain⟨z,its,n,r,e⟩:=h.ok I.hok;exact⟨its,r,⟨_,n,e,rfl,rfl,rfl⟩,z⟩
 ·refine⟨its.toList,r,⟨o,n,I.kIn a o hk,hc,hd,by simpa using hs⟩,?_⟩
  have e:=r.length;simp only[length_toList] at e;omega
theorem aC.tuple(I:aC X pins σ H s)(h:nh X.K H a xs):∃its:List Value,Vals xs its/\IsTup s.heap a its.toArray/\xs.length<=sizeLine:=by
 rcases h with h|⟨o,its,n,hk,hc,hs,hz,r⟩
 ·obtain⟨z,its,r,p⟩:=h.ok I.hok;exact⟨its,r,p,z⟩
 ·refine⟨its.toList,r,⟨o,I.kIn a o hk,hc,n,by simpa using hs⟩,?_⟩
  have e:=r.length;simp only[length_toList] at e;omega
theorem aC.list_inj(I:aC X pins σ H s)(h:kY X.K H a xs)(h':kY X.K H a ys):xs=ys:=by
 obtain⟨its,r,⟨o,n,e,_,_,d⟩,_⟩:=I.list h;obtain⟨its',r',⟨o',n',e',_,_,d'⟩,_⟩:=I.list h';rw[e] at e';cases e';rw[d] at d';injection d' with d1 _;have:its=its':=by simpa using congrArg Array.toList d1
 subst this;exact r.inj r'
theorem aC.tuple_inj(I:aC X pins σ H s)(h:nh X.K H a xs)(h':nh X.K H a ys):xs=ys:=by
 obtain⟨its,r,⟨o,e,_,n,d⟩,_⟩:=I.tuple h;obtain⟨its',r',⟨o',e',_,n',d'⟩,_⟩:=I.tuple h';rw[e] at e';cases e';rw[d] at d';injection d' with d1 _;have:its=its':=by simpa using congrArg Array.toList d1
 subst this;exact r.inj r'
end
abbrev Cx.wish(X:Cx)(E:Value->Shared->Prop):Cx:={X with xe:=E}
abbrev Cx.nox(X:Cx):Cx:=X.wish λ_ _=>False
theorem Cx.Ok.wish{X:Cx}(ok:X.Ok)(E:Value->Shared->Prop):(X.wish E).Ok:=
 ⟨ok.mod,ok.kind,ok.glob,ok.blt,ok.above,ok.inj,ok.has,ok.cab,ok.hd,ok.frames,ok.stk,ok.exf,ok.bs,ok.bsz,ok.noex,ok.exfs,ok.funs,ok.frf⟩
theorem Cx.Ok.unwish{X:Cx}{E:Value->Shared->Prop}(ok:(X.wish E).Ok):X.Ok:=
 ⟨ok.mod,ok.kind,ok.glob,ok.blt,ok.above,ok.inj,ok.has,ok.cab,ok.hd,ok.frames,ok.stk,ok.exf,ok.bs,ok.bsz,ok.noex,ok.exfs,ok.funs,ok.frf⟩
section
variable{X:Cx}{pins:List (Addr×Obj)}{σ:St}{H:Hp}{s:Shared}{E:Value->Shared->Prop}
theorem aC.wish(I:aC X pins σ H s)(E:Value->Shared->Prop):aC (X.wish E) pins σ H s:=⟨I.ok.wish E,I.os,I.bare,I.base,I.loc,I.cell,I.free,I.freeC,I.pin,I.hok,I.len⟩
theorem aC.unwish(I:aC (X.wish E) pins σ H s):aC X pins σ H s:=⟨I.ok.unwish,I.os,I.bare,I.base,I.loc,I.cell,I.free,I.freeC,I.pin,I.hok,I.len⟩
theorem SP.unwish{D:pB}{f:Flow}{s':Shared}(h:SP (X.wish E) pins D f s'):SP X pins D f s':=by
 cases f with
 |ret u=>obtain⟨v,σ',H',I,r,q⟩:=h;exact⟨v,σ',H',I.unwish,r,q⟩
 |_=>obtain⟨σ',H',I,q⟩:=h;exact⟨σ',H',I.unwish,q⟩
theorem PE.nox{e:Expr}{t:TE}(h:PE X.nox e t):PE X e t:=λpins s σ H Q I hw=>
 wpAny_mono (h pins s σ H Q (I.wish _) hw) (λ_ _ ⟨v,H',I',r,q⟩=>⟨v,H',I'.unwish,r,q⟩) λ_ _ z=>False.elim z
theorem PT.nox{e:Expr}{t:TT}(h:PT X.nox e t):PT X e t:=λpins s σ H Q I hw=>
 wpAny_mono (h pins s σ H Q (I.wish _) hw) (λ_ _ ⟨H',I',q⟩=>⟨H',I'.unwish,q⟩) λ_ _ z=>False.elim z
theorem pQ.nox{st:List Stmt}{t:TS}(h:pQ X.nox st t):pQ X st t:=λpins s σ H D I hw=>
 wpAny_mono (h pins s σ H D (I.wish _) hw) (λ_ _ q=>q.unwish) λ_ _ z=>False.elim z
end
section
variable{X:Cx}{st:Stmt}{rest:List Stmt}{t u:TS}{e:Expr}{te:TE}{pos:Pos}
def Jt:TS:=λD σ H=>D.nx σ H
def Kx(t u:TS):TS:=λD σ H=>t {D with nx:=u D} σ H
theorem Ap:pQ X [] Jt:=λ_ _ σ H _ I h=>wpAny_execs_nil ⟨σ,H,I,h⟩
theorem wt(h1:PS X st t)(h2:pQ X rest u):pQ X (st::rest) (Kx t u):=by
 intro pins s σ H D I h;refine wpAny_execs_cons (dA (h1 pins s σ H {D with nx:=u D} I h) λf s1 q=>?_);cases f with
 |next=>
  obtain⟨σ',H',I',q⟩:=q;exact h2 pins s1 σ' H' D I' q
 |ret v=>exact q
 |_=>exact q
theorem FF(h1:PS X st t):pQ X [st] t:=by
 intro pins s σ H D I h;refine wpAny_execs_cons (dA (h1 pins s σ H D I h) λf s1 q=>?_);cases f with
 |next=>exact wpAny_execs_nil q
 |ret v=>exact q
 |brk=>exact q
 |cont=>exact q
theorem aC.quiet{pins:List (Addr×Obj)}{σ:St}{H:Hp}{s:Shared}(I:aC X pins σ H s):interactive X.env=false:=by simp[interactive,I.ok.kind]
def Ju(te:TE):TS:=λD σ H=>te σ H λ_ H1=>D.nx σ H1
theorem uB(he:PE X e te)(hs:swapsWith e none pos.line X.env=pure false:=by rfl):PS X (.Expr e pos) (Ju te):=by
 intro pins s σ H D I h;exact wpAny_Expr_any (dA (he pins s σ H _ I h) λv s1 ⟨x,H1,I1,r1,q1⟩=>⟨σ,H1,I1,q1⟩) I.quiet hs
def Ky(te:TE):TS:=λD σ H=>te σ H D.rt
theorem DG(he:PE X e te):PS X (.Return (some e) pos) (Ky te):=by
 intro pins s σ H D I h;exact wpAny_Return_some (dA (he pins s σ H _ I h) λv s1 ⟨x,H1,I1,r1,q1⟩=>⟨x,σ,H1,I1,r1,q1⟩)
def KC(c:TT)(t u:TS):TS:=λD σ H=>c σ H λb H1=>if b=true then t D σ H1 else u D σ H1
theorem JJ{c:Expr}{a b:List Stmt}{tc:TT}(hc:PT X c tc)(ha:pQ X a t)(hb:pQ X b u):PS X (.If c a b pos) (KC tc t u):=by
 intro pins s σ H D I h;refine wpAny_If (dA (hc pins s σ H _ I h) λd s1 ⟨H1,I1,q1⟩=>?_);cases d with
 |true=>exact ha pins s1 σ H1 D I1 q1
 |false=>exact hb pins s1 σ H1 D I1 q1
end
abbrev TG:=V->St->Hp->(St->Hp->Prop)->Prop
abbrev Jc:=List V->St->Hp->(St->Hp->Prop)->Prop
def PG(X:Cx)(target:Expr)(t:TG):Prop:=
 ∀(pins:List (Addr×Obj))(s:Shared)(σ:St)(H:Hp)(v:V)(u:Value)(Q:St->Hp->Prop),aC X pins σ H s->RelV v u->t v σ H Q->
  wpAny (model X.prog X.w) X.A (assign target X.env u) (λ_ s'=>∃σ' H',aC X pins σ' H' s'/\Q σ' H') X.xe s
def Kt(X:Cx)(ts:List Expr)(t:Jc):Prop:=
 ∀(pins:List (Addr×Obj))(s:Shared)(σ:St)(H:Hp)(vs:List V)(us:List Value)(Q:St->Hp->Prop),aC X pins σ H s->Vals vs us->t vs σ H Q->
  wpAny (model X.prog X.w) X.A (assignInOrder ((assignEach ts X.env).map (·.2)) us) (λ_ s'=>∃σ' H',aC X pins σ' H' s'/\Q σ' H') X.xe s
section
variable{X:Cx}{pos:Pos}
def tJ(i:Nat):TG:=λv σ H Q=>Q (σ.set i (some v)) H
theorem uD{i:Nat}{x:Str}(hN:X.N.Nodup)(hi:X.N[i]?=some x)(hx:yd X.env.scope x)(hf:X.fn x=true\/X.env.scope.names.lookup x=some .local:=by first|exact .inl rfl|exact .inr rfl|assumption):PG X (.Name x pos) (tJ i):=by
 intro pins s σ H v u Q I r h;exact wpAny_assign_Name (vY I hN hi hx r (λs' I'=>⟨_,H,I',h⟩) hf)
def L5:Jc:=λvs σ H Q=>vs=[]/\Q σ H
def Ka(t:TG)(u:Jc):Jc:=λvs σ H Q=>∃v r,vs=v::r/\t v σ H λσ' H'=>u r σ' H' Q
theorem FO:Kt X [] L5:=by
 intro pins s σ H vs us Q I r h;obtain⟨e,h⟩:=h;subst e;cases r;exact assignInOrder_nil ⟨σ,H,I,h⟩
theorem wy{e:Expr}{es:List Expr}{t:TG}{u:Jc}(h1:PG X e t)(h2:Kt X es u)
  (hs:(assignEach (e::es) X.env).map (·.2)=assign e X.env::(assignEach es X.env).map (·.2):=by rfl):Kt X (e::es) (Ka t u):=by
 intro pins s σ H vs us Q I r h;obtain⟨v,vr,e1,h⟩:=h;subst e1;cases r with
 |cons r rr=>
  rw[hs];refine assignInOrder_cons (dA (h1 pins s σ H _ _ _ I r h) λ_ s1 ⟨σ1,H1,I1,q1⟩=>?_);exact h2 pins s1 σ1 H1 _ _ Q I1 rr q1
def L4(K:Frag)(n:Nat)(t:Jc):TG:=λv σ H Q=>∃a xs,v=.ref a/\nh K H a xs/\xs.length=n/\t xs σ H Q
theorem HJ{es:List Expr}{k:Nat}{t:Jc}{n:Nat}(hc:X.calm=true)(h:Kt X es t)
  (hn:(assignEach es X.env).length=n:=by rfl) (hst:(assignEach es X.env).findIdx? (·.1)=none:=by rfl):PG X (.Tuple es k pos) (L4 X.K n t):=by
 intro pins s σ H v u Q I r hw;obtain⟨a,xs,e1,hq,hl,hw⟩:=hw;subst e1;cases r;obtain⟨its,rv,ht,hz⟩:=I.tuple hq;refine assign_Tuple_tuple (I.ok.hd hc) ht (by simp[hn,←hl,rv.length]) hst λh' hx=>?_
 have I1:aC X pins σ H {s with heap:=h'}:=I.kept (t':=s.toks) λb o e=>hx b o (ne_of_lt (lt_size e)) e;exact h pins _ σ H xs _ Q I1 (by simpa using rv) hw
def Do(te:TE)(g:TG):TS:=λD σ H=>te σ H λx H1=>g x σ H1 D.nx
theorem yI{i:Nat}{x:Str}{e:Expr}{te:TE}{pos':Pos}(hN:X.N.Nodup)(hi:X.N[i]?=some x)(hx:yd X.env.scope x)(he:PE X e te)(hs:swapsWith e (some (.Name x pos')) pos.line X.env=pure false:=by rfl)(hf:X.fn x=true\/X.env.scope.names.lookup x=some .local:=by first|exact .inl rfl|exact .inr rfl|assumption):
  PS X (.Assign [.Name x pos'] e pos) (Do te (tJ i)):=by
 intro pins s σ H D I h;refine wpAny_Assign_Name (dA (he pins s σ H _ I h) λv s1 ⟨y,H1,I1,r1,q1⟩=>?_) hs;exact vY I1 hN hi hx r1 (λs2 I2=>⟨_,H1,I2,q1⟩) hf
end
section
variable{X:Cx}{pos:Pos}
def Dk(c:TT)(tb:TS):TS:=λD σ H=>∃W:Nat->St->Hp->Prop,(∃m,W m σ H)/\∀m σ H,W m σ H->
 c σ H λb H1=>if b=true then ∃N:St->Hp->Prop,(∀σ' H',N σ' H'->∃m',m'<m/\W m' σ' H')/\tb {D with nx:=N,ct:=N,bk:=D.nx} σ H1 else D.nx σ H1
theorem DF{c:Expr}{body:List Stmt}{tc:TT}{tb:TS}(hp:PassesOwn (model X.prog X.w) X.A X.env X.xe)(hc:PT X c tc)(hb:pQ X body tb):PS X (.While c body [] pos) (Dk tc tb):=by
 intro pins s σ H D I h;obtain⟨W,⟨m0,w0⟩,turn⟩:=h;refine wpAny_While (codeAny_whileLoop (λn s'=>∃σ' H',aC X pins σ' H' s'/\W n σ' H') ?_ m0 ⟨σ,H,I,w0⟩)
 rintro n s1 ⟨σ1,H1,I1,w1⟩
 refine wpAny_passesOwn hp (dA (hc pins s1 σ1 H1 _ I1 (turn n σ1 H1 w1)) λb s2 ⟨H2,I2,q2⟩=>?_);cases b with
 |true=>
  obtain⟨N,hN,q2⟩:=q2;rw[if_pos rfl];refine wpAny_passesOwn hp (dA (hb pins s2 σ1 H2 _ I2 q2) λf s3 q3=>?_);cases f with
  |next=>
   obtain⟨σ3,H3,I3,n3⟩:=q3;obtain⟨m',hm,w3⟩:=hN σ3 H3 n3;exact⟨m',hm,σ3,H3,I3,w3⟩
  |cont=>
   obtain⟨σ3,H3,I3,n3⟩:=q3;obtain⟨m',hm,w3⟩:=hN σ3 H3 n3;exact⟨m',hm,σ3,H3,I3,w3⟩
  |brk=>exact q3
  |ret v=>exact q3
 |false=>
  rw[if_neg Bool.false_ne_true];exact wpAny_execs_nil ⟨σ1,H2,I2,q2⟩
end
structure It where
 go:Nat->Hp->Prop
 yld:Nat->Hp->V->Hp->Prop
 stop:Nat->Hp->Prop
def FpOk(X:Cx)(pins:List (Addr×Obj))(H:Hp)(b:Addr):Prop:=
 H b=none/\b≠X.env.locals/\b∉X.fs/\(b∈X.ex\/X.s₀.heap.objs.size<=b)/\(∀x c,X.env.cells.lookup x=some c->c≠b)/\∀p∈X.pn++pins,p.1≠b
theorem aC.fpOk{X:Cx}{pins:List (Addr×Obj)}{σ:St}{H H':Hp}{s:Shared}{b:Addr}(I:aC X pins σ H s)(hb:s.heap.objs.size<=b)(hn:H' b=none):FpOk X pins H' b:=by
 refine⟨hn,ne_of_gt (lt_of_lt_of_le I.lt hb),I.nofs hb,.inr (le_trans I.sz hb),λx c e z=>?_,λp hp z=>?_⟩
 ·obtain⟨v,q⟩:=I.cell x c e;exact absurd (lt_of_lt_of_le q.lt (by rw[z];exact hb)) (lt_irrefl _)
 ·exact absurd (lt_of_lt_of_le (lt_size (I.pin p hp).1) (by rw[z];exact hb)) (lt_irrefl _)
structure D6(P:Program)(w:World)(K:Frag)(tg:Expr)(J:It)(fp:List Addr)(it:Addr)(tn:Nat->Heap->Prop):Prop where
 mem:it∈fp
 obj:∀i h,tn i h->∀b∈fp,∃o,h.get? b=some o/\∀v,o.data≠.cell v
 keep:∀i h h',tn i h->(∀b∈fp,∀o,h.get? b=some o->h'.get? b=some o)->tn i h'
 item:∀(X:Cx),X.prog=P->X.w=w->X.K=K->X.calm=true->∀(i:Nat)(pins:List (Addr×Obj))(s:Shared)(σ:St)(H:Hp)(E:Value->Shared->Prop),aC X pins σ H s->(∀b∈fp,FpOk X pins H b)->tn i s.heap->J.go i H->
  wpAny (model P w) X.A (pyNext (.ref it)) (λr s1=>∃u,r=some u/\
   wpAny (model P w) X.A (letOwnedTupleGo tg (.ref it) u) (λ_ s2=>∃x H',aC X pins σ H' s2/\RelV x u/\J.yld i H x H'/\tn (i+1) s2.heap/\∀b∈fp,H' b=none) E s1) E s
 done:∀(X:Cx),X.prog=P->X.w=w->X.K=K->X.calm=true->∀(i:Nat)(pins:List (Addr×Obj))(s:Shared)(σ:St)(H:Hp)(E:Value->Shared->Prop),aC X pins σ H s->(∀b∈fp,FpOk X pins H b)->tn i s.heap->J.stop i H->
  wpAny (model P w) X.A (pyNext (.ref it)) (λr s1=>r=none/\aC X pins σ H s1) E s
 self:∀(A:Around)(i:Nat)(s:Shared)(Q:Value->Shared->Prop)(E:Value->Shared->Prop),tn i s.heap->Q (.ref it) s->wpAny (model P w) A (pyIter (.ref it)) Q E s
abbrev TI:=St->Hp->(It->Hp->Prop)->Prop
def Lp(X:Cx)(pins:List (Addr×Obj))(σ:St)(tg:Expr)(R:It->Hp->Prop)(itv:Value)(s2:Shared):Prop:=
 ∃(it:Addr)(fp:List Addr)(tn:Nat->Heap->Prop)(J:It)(H':Hp),itv=.ref it/\aC X pins σ H' s2/\D6 X.prog X.w X.K tg J fp it tn/\tn 0 s2.heap/\(∀b∈fp,FpOk X pins H' b)/\R J H'
def PI(X:Cx)(tg iter:Expr)(wi:TI):Prop:=
 ∀(pins:List (Addr×Obj))(s:Shared)(σ:St)(H:Hp)(R:It->Hp->Prop),aC X pins σ H s->wi σ H R->
  wpAny (model X.prog X.w) X.A (eval iter X.env) (λv s1=>wpAny (model X.prog X.w) X.A (pyIter v) (Lp X pins σ tg R) X.xe s1) X.xe s
theorem EH{M:Model}{A:Around}{E:Value->Shared->Prop}{s:Shared}{tg:Expr}{it:Addr}{u:Value}{o:Obj}{n:String}{vs:Array Value}{Q:Unit->Shared->Prop}(ho:s.heap.get? it=some o)(hc:o.cls=.type n)(hd:o.data=.fields vs)
  (hn:["enumerate","zip","dict_itemiterator","dict_reverseitemiterator","odict_iterator","itertools.zip_longest","itertools.pairwise"].contains n=false) (hQ:Q () s):wpAny M A (letOwnedTupleGo tg (.ref it) u) Q E s:=by
 unfold letOwnedTupleGo;cases tg <;> first
  |exact wpAny_pure hQ
  | (cases u <;> first
      |exact wpAny_pure hQ
      | (refine wpAny_bind (wpAny_load ho ?_)
         rw[hc,hd];show wpAny M A (if(["enumerate","zip","dict_itemiterator","dict_reverseitemiterator","odict_iterator","itertools.zip_longest","itertools.pairwise"].contains n && vs[0]? == some (rawInt _))=true then _ else _) Q E s;rw[if_neg (by intro h;rw[hn,Bool.false_and] at h;cases h)]
         exact wpAny_pure hQ))
def Lg(K:Frag)(a:Addr):It:=
 ⟨λi H=>∃xs x,kY K H a xs/\xs[i]?=some x,λi H x H'=>H'=H/\∀xs,kY K H a xs->xs[i]?=some x,λi H=>∃xs,kY K H a xs/\xs.length<=i⟩
def Lf(K:Frag)(a:Addr):It:=
 ⟨λi H=>∃xs x,nh K H a xs/\xs[i]?=some x,λi H x H'=>H'=H/\∀xs,nh K H a xs->xs[i]?=some x,λi H=>∃xs,nh K H a xs/\xs.length<=i⟩
def Kl(lo:Int)(n:Nat):It:=⟨λi _=>i<n,λi H x H'=>H'=H/\x=.int (lo+i),λi _=>n<=i⟩
theorem Ba{P:Program}{w:World}{K:Frag}{tg:Expr}(a it:Addr):D6 P w K tg (Lg K a) [it] it (λi h=>h.IsListIter it a i) where
 mem:=by simp
 obj:=λi h st b hb=>by
  have e:b=it:=by simpa using hb
  subst e;obtain⟨o,e,c,d⟩:=st;exact⟨o,e,λv z=>by rw[d] at z;cases z⟩
 keep:=λi h h' st k=>st.at λo e=>k it (by simp) o e
 item:=by
  intro X hP hw hK hc i pins s σ H E I hf st hg;subst hP hw hK;obtain⟨xs,x,hq,hx⟩:=hg;obtain⟨its,rv,p,hz⟩:=I.list hq;obtain⟨u,hu,ru⟩:=rv.get hx;obtain⟨f0,f1,f2,f3,f4,f5⟩:=hf it (by simp)
  refine wpAny_pyNext_list_item st p.isList (x:=u) (by simpa using hu) λh' st' sb=>?_
  have I1:aC X pins σ H {s with heap:=h'}:=I.turned (t':=s.toks) (λb o hb e=>(sb.2 b hb).trans e) f0 f1 f3 f4 f5;obtain⟨o,e,c,d⟩:=id st';exact⟨u,rfl,EH (s:={s with heap:=h'}) e c d (by decide) ⟨x,H,I1,ru,⟨rfl,λys hy=>by rw[I.list_inj hy hq];exact hx⟩,st',λb hb=>(hf b hb).1⟩⟩
 done:=by
  intro X hP hw hK hc i pins s σ H E I hf st hg;subst hP hw hK;obtain⟨xs,hq,hx⟩:=hg;obtain⟨its,rv,p,hz⟩:=I.list hq;obtain⟨f0,f1,f2,f3,f4,f5⟩:=hf it (by simp)
  have hl:=rv.length;exact wpAny_pyNext_list_end (I.ok.hd hc) st p.isList (by simp;omega) λh' eb=>⟨rfl,I.turned (t':=s.toks) (λb o hb e=>eb b o hb e) f0 f1 f3 f4 f5⟩
 self:=λ_ _ _ _ _ st h=>wpAny_pyIter_listiter st h
theorem yi{P:Program}{w:World}{K:Frag}{tg:Expr}(a it:Addr):D6 P w K tg (Lf K a) [it] it (λi h=>h.IsTupleIter it a i) where
 mem:=by simp
 obj:=λi h st b hb=>by
  have e:b=it:=by simpa using hb
  subst e;obtain⟨o,e,c,d⟩:=st;exact⟨o,e,λv z=>by rw[d] at z;cases z⟩
 keep:=λi h h' st k=>st.at λo e=>k it (by simp) o e
 item:=by
  intro X hP hw hK hc i pins s σ H E I hf st hg;subst hP hw hK;obtain⟨xs,x,hq,hx⟩:=hg;obtain⟨its,rv,p,hz⟩:=I.tuple hq;obtain⟨u,hu,ru⟩:=rv.get hx;obtain⟨f0,f1,f2,f3,f4,f5⟩:=hf it (by simp)
  refine wpAny_pyNext_tuple_item st (show s.heap.IsTuple a its.toArray from p) (x:=u) (by simpa using hu) λh' st' sb=>?_
  have I1:aC X pins σ H {s with heap:=h'}:=I.turned (t':=s.toks) (λb o hb e=>(sb.2 b hb).trans e) f0 f1 f3 f4 f5;obtain⟨o,e,c,d⟩:=id st';exact⟨u,rfl,EH (s:={s with heap:=h'}) e c d (by decide) ⟨x,H,I1,ru,⟨rfl,λys hy=>by rw[I.tuple_inj hy hq];exact hx⟩,st',λb hb=>(hf b hb).1⟩⟩
 done:=by
  intro X hP hw hK hc i pins s σ H E I hf st hg;subst hP hw hK;obtain⟨xs,hq,hx⟩:=hg;obtain⟨its,rv,p,hz⟩:=I.tuple hq;obtain⟨f0,f1,f2,f3,f4,f5⟩:=hf it (by simp)
  have hl:=rv.length;exact wpAny_pyNext_tuple_end (I.ok.hd hc) st (show s.heap.IsTuple a its.toArray from p) (by simp;omega) λh' eb=>⟨rfl,I.turned (t':=s.toks) (λb o hb e=>eb b o hb e) f0 f1 f3 f4 f5⟩
 self:=λ_ _ _ _ _ st h=>wpAny_pyIter_tupleiter st h
theorem yj{P:Program}{w:World}{K:Frag}{tg:Expr}(it:Addr)(lo:Int)(n:Nat):D6 P w K tg (Kl lo n) [it] it (λi h=>IsRangeIter h it (lo+(i:Nat) * 1) ((n:Int) - (i:Nat)) 1) where
 mem:=by simp
 obj:=λi h st b hb=>by
  have e:b=it:=by simpa using hb
  subst e;exact⟨_,st,λv z=>by
   have z':Data.fields _=Data.cell v:=z;cases z'⟩
 keep:=λi h h' st k=>k it (by simp) _ st
 item:=by
  intro X hP hw hK hc i pins s σ H E I hf st hg;subst hP hw hK;obtain⟨f0,f1,f2,f3,f4,f5⟩:=hf it (by simp)
  have W:=Walks.range (prog:=X.prog) (w:=X.w) (I.ok.hd hc) it lo 1 n;refine W.item i s _ _ hg st λv h' tk hv st' kk=>?_;obtain⟨t,rfl⟩:=hv;have I1:aC X pins σ H {s with heap:=h',toks:=tk}:=I.turned (λb o hb e=>kk b o (by simpa using hb) e) f0 f1 f3 f4 f5
  refine⟨_,rfl,EH (s:={s with heap:=h',toks:=tk}) (n := "range_iterator") st' rfl rfl (by decide) ⟨.int (lo+i),H,I1,⟨t,?_⟩,⟨rfl,rfl⟩,st',λb hb=>(hf b hb).1⟩⟩
  rw[Int.mul_one]
 done:=by
  intro X hP hw hK hc i pins s σ H E I hf st hg;subst hP hw hK;obtain⟨f0,f1,f2,f3,f4,f5⟩:=hf it (by simp)
  exact wpAny_pyNext_range_end (I.ok.hd hc) st (by have:n<=i:=hg;omega) λh' eb=>⟨rfl,I.turned (t':=s.toks) (λb o hb e=>eb b o hb e) f0 f1 f3 f4 f5⟩
 self:=λ_ _ _ _ _ st h=>wpAny_pyIter_rangeiter st h
section
variable{X:Cx}{tg:Expr}
theorem wo{pins:List (Addr×Obj)}{σ:St}{H:Hp}{s:Shared}{R:It->Hp->Prop}{E:Value->Shared->Prop}{lo hi:Int}{t u v:Tok}{tk:Nat}(I:aC X pins σ H s)(h1:-(2 ^ 62)<=lo)(h2:lo<2 ^ 62)(h3:-(2 ^ 62)<=hi)(h4:hi<2 ^ 62)
  (q:R (Kl lo (hi - lo).toNat) H):wpAny (model X.prog X.w) X.A (pyIter (.ref s.heap.objs.size)) (Lp X pins σ tg R) E {s with heap:=s.heap.push {cls:=.type "range",data:=.fields #[.int lo t,.int hi u,.int 1 v]},toks:=tk}:=by
 refine wpAny_pyIter_range (IsRange.new ..) (small_one h1 h2 h3 h4) ?_;have I1:aC X pins σ H {s with heap:=s.heap.push {cls:=.type "range",data:=.fields #[.int lo t,.int hi u,.int 1 v]},toks:=tk}:=I.kept λb o e=>get?_push_of_some _ e;refine⟨(s.heap.push {cls:=.type "range",data:=.fields #[.int lo t,.int hi u,.int 1 v]}).objs.size,[(s.heap.push {cls:=.type "range",data:=.fields #[.int lo t,.int hi u,.int 1 v]}).objs.size],_,_,H,rfl,
  I1.kept (t':=tk) λb o e=>get?_push_of_some _ e,yj _ lo (hi - lo).toNat,?_,λb hb=>?_,q⟩
 ·have e1:lo+((0:Nat):Int) * 1=lo:=by simp
  have e2:(((hi - lo).toNat:Nat):Int) - ((0:Nat):Int)=Builtin.Range.rangeSize lo hi 1:=by rw[rangeSize_one];split <;> omega
  show IsRangeIter _ _ (lo+((0:Nat):Int) * 1) ((((hi - lo).toNat:Nat):Int) - ((0:Nat):Int)) 1;rw[e1,e2];exact get?_push_size _ rfl
 ·have e:b=(s.heap.push {cls:=.type "range",data:=.fields #[.int lo t,.int hi u,.int 1 v]}).objs.size:=by simpa using hb
  subst e;exact I1.fpOk (le_refl _) (I1.hok.fresh (le_refl _))
def K9(ta:TA):TI:=λσ H R=>ta σ H λvs H1=>∃j:Int,vs=[.int j]/\-(2 ^ 62)<=j/\j<2 ^ 62/\R (Kl 0 j.toNat) H1
def K8(ta:TA):TI:=λσ H R=>ta σ H λvs H1=>∃i j:Int,vs=[.int i,.int j]/\(-(2 ^ 62)<=i/\i<2 ^ 62/\-(2 ^ 62)<=j/\j<2 ^ 62)/\R (Kl i (j - i).toNat) H1
theorem BI{a:Expr}{ta:TA}{p pos:Pos}(hg:Gl X "range")(hm:X.mg "range" = none)(ha:PA X [a] ta)(hs:starEach [a] X.env=[(false,eval a X.env)]:=by rfl):PI X tg (.Call (.Name "range" p) [a] [] pos) (K9 ta):=by
 intro pins s σ H R I h;refine Call_ (lD I hg hm boot_range (PyProof.Rows.callWith_type1 (dA (ha pos pins s σ H _ I h) λus s1 ⟨vs,H1,I1,r1,q1⟩=>?_) hs rfl));obtain⟨j,e,q1,q2,q⟩:=q1;subst e;cases r1 with
 |cons r rr=>
  cases rr;obtain⟨t,rfl⟩:=r;exact call_range_1 (wo I1 (by omega) (by omega) q1 q2 (by simpa using q))
theorem BH{a b:Expr}{ta:TA}{p pos:Pos}(hg:Gl X "range")(hm:X.mg "range" = none)(ha:PA X [a,b] ta)(hs:starEach [a,b] X.env=[(false,eval a X.env),(false,eval b X.env)]:=by rfl)(hs2:starEach [b] X.env=[(false,eval b X.env)]:=by rfl):
  PI X tg (.Call (.Name "range" p) [a,b] [] pos) (K8 ta):=by
 intro pins s σ H R I h;refine Call_ (lD I hg hm boot_range (PyProof.Rows.callWith_type1 (dA (ha pos pins s σ H _ I h) λus s1 ⟨vs,H1,I1,r1,q1⟩=>?_) (by rw[hs,hs2]) (by rw[hs2];rfl)))
 obtain⟨i,j,e,⟨q1,q2,q3,q4⟩,q⟩:=q1;subst e;cases r1 with
 |cons r rr=>
  cases rr with
  |cons r' rr=>
   cases rr;obtain⟨t,rfl⟩:=r;obtain⟨t',rfl⟩:=r';exact call_range_2 (wo I1 q1 q2 q3 q4 q)
def KD(wi:TI)(g:TG)(tb:TS):TS:=λD σ H=>wi σ H λJ H1=>∃W:Nat->Nat->St->Hp->Prop,(∃m,W 0 m σ H1)/\∀i m σ H,W i m σ H->
 (J.stop i H/\D.nx σ H)\/(J.go i H/\∃N:St->Hp->Prop,(∀σ' H',N σ' H'->∃m',m'<m/\W (i+1) m' σ' H')/\∀x H',J.yld i H x H'->g x σ H' λσ2 H2=>tb {D with nx:=N,ct:=N,bk:=D.nx} σ2 H2)
def qr(fp:List Addr)(h:Heap):List (Addr×Obj):=fp.filterMap λb=>(h.get? b).map λo=>(b,o)
theorem kM{fp:List Addr}{h:Heap}{b:Addr}{o:Obj}(hb:b∈fp)(e:h.get? b=some o):(b,o)∈qr fp h:=List.mem_filterMap.mpr ⟨b,hb,by rw[e];rfl⟩
theorem BS{fp:List Addr}{h:Heap}{p:Addr×Obj}(hp:p∈qr fp h):p.1∈fp/\h.get? p.1=some p.2:=by
 obtain⟨b,hb,e⟩:=List.mem_filterMap.mp hp;cases q:h.get? b with
 |none=>rw[q] at e;cases e
 |some o=>
  rw[q] at e;have e':(b,o)=p:=Option.some.inj e;subst e';exact⟨hb,q⟩
theorem aC.pinned{pins:List (Addr×Obj)}{σ:St}{H:Hp}{s:Shared}{fp:List Addr}(I:aC X pins σ H s)(hf:∀b∈fp,FpOk X pins H b)(ho:∀b∈fp,∃o,s.heap.get? b=some o/\∀v,o.data≠.cell v):aC X (pins++qr fp s.heap) σ H s:=
 I.pins_of λp hp=>(mem_append.mp hp).elim (λz=>I.pin p (mem_append_right _ z)) λz=>by
  obtain⟨hb,e⟩:=BS z;obtain⟨f0,f1,f2,_⟩:=hf p.1 hb;obtain⟨o,e',d⟩:=ho p.1 hb;rw[e] at e';cases e';exact⟨e,f0,f1,f2,d⟩
theorem aC.unpinned{pins pl:List (Addr×Obj)}{σ:St}{H:Hp}{s:Shared}(I:aC X (pins++pl) σ H s):aC X pins σ H s:=I.pins_of λp hp=>I.pin p (mem_append_right _ (List.mem_append_left _ hp))
theorem HG{iter:Expr}{body:List Stmt}{wi:TI}{g:TG}{tb:TS}{pos:Pos}(hp:PassesOwn (model X.prog X.w) X.A X.env X.xe)(hc:X.calm=true)(hi:PI X tg iter wi)(hg:PG X tg g)(hb:pQ X body tb)
  (hs:∀x,foldedSetIterable iter X.env x=pure x:=by intro _;rfl):PS X (.For tg iter body [] pos) (KD wi g tb):=by
 intro pins s σ H D I h;refine wpAny_For (dA (hi pins s σ H _ I h) λv s1 h1=>dA h1 λitv s2 h2=>?_) hs;obtain⟨it,fp,tn,J,H2,e,I2,T,st2,f2,W,⟨m0,w0⟩,turn⟩:=h2;subst e;have stat:∀{H':Hp},(∀b∈fp,H' b=none)->∀b∈fp,FpOk X pins H' b:=λhn b hb=>⟨hn b hb,(f2 b hb).2⟩;refine codeAny_forLoop_any (λn s'=>∃i σ' H',aC X pins σ' H' s'/\tn i s'.heap/\(∀b∈fp,H' b=none)/\W i n σ' H') ?_ m0 ⟨0,σ,H2,I2,st2,λb hb=>(f2 b hb).1,w0⟩
 rintro n s3 ⟨i,σ3,H3,I3,st3,fr3,w3⟩
 rcases turn i n σ3 H3 w3 with⟨stop,qn⟩|⟨go,N,hN,step⟩
 ·refine wpAny_passesOwn hp (dA (T.done X rfl rfl rfl hc i pins s3 σ3 H3 X.xe I3 (stat fr3) st3 stop) λr s4 ⟨hr,I4⟩=>?_);subst hr;exact wpAny_execs_nil ⟨σ3,H3,I4,qn⟩
 ·refine wpAny_passesOwn hp (dA (T.item X rfl rfl rfl hc i pins s3 σ3 H3 X.xe I3 (stat fr3) st3 go) λr s4 ⟨u,hr,h4⟩=>?_);subst hr;refine wpAny_passesOwn hp (dA h4 λ_ s5 ⟨x,H5,I5,r5,y5,st5,fr5⟩=>?_);have I5':=I5.pinned (stat fr5) (T.obj _ _ st5);refine wpAny_passesOwn hp (dA (hg _ s5 σ3 H5 x u _ I5' r5 (step x H5 y5)) λ_ s6 ⟨σ6,H6,I6,q6⟩=>?_);refine wpAny_passesOwn hp (dA (hb _ s6 σ6 H6 _ I6 q6) λf s7 q7=>?_);have again:∀{σ7:St}{H7:Hp},aC X (pins++qr fp s5.heap) σ7 H7 s7->N σ7 H7->∃m,m<n/\∃i σ' H',aC X pins σ' H' s7/\tn i s7.heap/\(∀b∈fp,H' b=none)/\W i m σ' H':=λ{σ7 H7} I7 n7=>by
   obtain⟨m',hm,w7⟩:=hN σ7 H7 n7;refine⟨m',hm,i+1,σ7,H7,I7.unpinned,T.keep _ _ _ st5 λb hb o e=>(I7.pin (b,o) (mem_append_right _ (mem_append_right _ (kM hb e)))).1,λb hb=>?_,w7⟩;obtain⟨o,e,d⟩:=T.obj _ _ st5 b hb;exact(I7.pin (b,o) (mem_append_right _ (mem_append_right _ (kM hb e)))).2.1
  cases f with
  |brk=>obtain⟨σ7,H7,I7,q7⟩:=q7;exact⟨σ7,H7,I7.unpinned,q7⟩
  |ret v=>obtain⟨x7,σ7,H7,I7,r7,q7⟩:=q7;exact⟨x7,σ7,H7,I7.unpinned,r7,q7⟩
  |_=>obtain⟨σ7,H7,I7,n7⟩:=q7;exact again I7 n7
end
abbrev R2:=V->V->Hp->VK->Prop
def iU(X:Cx)(f:Value->Value->Sem Value)(r:R2):Prop:=
 ∀(pins:List (Addr×Obj))(s:Shared)(σ:St)(H:Hp)(x y:V)(v u:Value)(Q:VK),aC X pins σ H s->RelV x v->RelV y u->r x y H Q->
  wpAny (model X.prog X.w) X.A (f v u) (EP X pins σ Q) X.xe s
def Kr(X:Cx)(f:Value->Sem Value)(r:V->Hp->VK->Prop):Prop:=
 ∀(pins:List (Addr×Obj))(s:Shared)(σ:St)(H:Hp)(x:V)(v:Value)(Q:VK),aC X pins σ H s->RelV x v->r x H Q->
  wpAny (model X.prog X.w) X.A (f v) (EP X pins σ Q) X.xe s
def dD(X:Cx)(f:Value)(r:List V->Hp->VK->Prop):Prop:=
 ∀(pins:List (Addr×Obj))(s:Shared)(σ:St)(H:Hp)(xs:List V)(us:List Value)(Q:VK),aC X pins σ H s->Vals xs us->r xs H Q->
  wpAny (model X.prog X.w) X.A (call f us) (EP X pins σ Q) X.xe s
def Jr(r:R2)(ta tb:TE):TE:=λσ H Q=>ta σ H λx H1=>tb σ H1 λy H2=>r x y H2 Q
def Ls(r:V->Hp->VK->Prop)(ta:TE):TE:=λσ H Q=>ta σ H λx H1=>r x H1 Q
def rI(C:Int->Int->Prop)(g:Int->Int->V):R2:=λx y H Q=>∃i j,x=.int i/\y=.int j/\C i j/\Q (g i j) H
def GP(g:Int->Int->V):R2:=λx y H Q=>∃i j,x=.int i/\y=.int j/\Q (g i j) H
def rU(g:Int->V):V->Hp->VK->Prop:=λx H Q=>∃i,x=.int i/\Q (g i) H
section
variable{X:Cx}{a b c:Expr}{ta tb tc:TE}{pos:Pos}
theorem IZ(ha:PE X a ta)(hb:PE X b tb){pins:List (Addr×Obj)}{s:Shared}{σ:St}{H:Hp}{R:V->V->Hp->Prop}(I:aC X pins σ H s)
  (h:ta σ H λx H1=>tb σ H1 λy H2=>R x y H2) {Q:Value->Shared->Prop} {f:Value->Value->Sem Value}
  (hf:∀v u s2 x y H2,aC X pins σ H2 s2->RelV x v->RelV y u->R x y H2->wpAny (model X.prog X.w) X.A (f v u) Q X.xe s2):
  wpAny (model X.prog X.w) X.A (eval a X.env) (λv s₁=>wpAny (model X.prog X.w) X.A (eval b X.env) (λu s₂=>wpAny (model X.prog X.w) X.A (f v u) Q X.xe s₂) X.xe s₁) X.xe s:=by
 refine dA (ha pins s σ H _ I h) λv s1 ⟨x,H1,I1,r1,q1⟩=>?_;refine dA (hb pins s1 σ H1 _ I1 q1) λu s2 ⟨y,H2,I2,r2,q2⟩=>?_;exact hf v u s2 x y H2 I2 r1 r2 q2
theorem DO{op:Operator}{r:R2}(ho:iU X (binaryOp op) r)(ha:PE X a ta)(hb:PE X b tb):PE X (.BinOp a op b pos) (Jr r ta tb):=by
 intro pins s σ H Q I h;exact wpAny_BinOp (IZ ha hb I h λv u s2 x y H2 I2 rx ry q=>ho pins s2 σ H2 x y v u Q I2 rx ry q)
theorem GR{op:UnaryOp}{r:V->Hp->VK->Prop}(ho:Kr X (unaryOp op) r)(ha:PE X a ta):PE X (.UnaryOp op a pos) (Ls r ta):=by
 intro pins s σ H Q I h;exact UnaryOp_ (dA (ha pins s σ H _ I h) λv s1 ⟨x,H1,I1,r1,q1⟩=>ho pins s1 σ H1 x v Q I1 r1 q1)
theorem Jl{f:Value->Value->Sem Value}{C:Int->Int->Prop}{g:Int->Int->Int}
  (rule:∀(i j:Int)(t u:Tok)(s:Shared)(Q:Value->Shared->Prop)(E:Value->Shared->Prop),C i j->Q (.int (g i j) s.toks) {s with toks:=s.toks+1}->wpAny (model X.prog X.w) X.A (f (.int i t) (.int j u)) Q E s):
  iU X f (rI C λi j=>.int (g i j)):=by
 intro pins s σ H x y v u Q I rx ry h;obtain⟨i,j,rfl,rfl,hc,q⟩:=h;obtain⟨t,rfl⟩:=rx;obtain⟨t',rfl⟩:=ry;exact rule i j t t' s _ _ hc ⟨.int (g i j),H,I.tok _,⟨_,rfl⟩,q⟩
theorem G3{f:Value->Value->Sem Value}{g:Int->Int->Int}
  (rule:∀(i j:Int)(t u:Tok)(s:Shared)(Q:Value->Shared->Prop)(E:Value->Shared->Prop),Q (.int (g i j) s.toks) {s with toks:=s.toks+1}->wpAny (model X.prog X.w) X.A (f (.int i t) (.int j u)) Q E s):
  iU X f (GP λi j=>.int (g i j)):=by
 intro pins s σ H x y v u Q I rx ry h;obtain⟨i,j,rfl,rfl,q⟩:=h;obtain⟨t,rfl⟩:=rx;obtain⟨t',rfl⟩:=ry;exact rule i j t t' s _ _ ⟨.int (g i j),H,I.tok _,⟨_,rfl⟩,q⟩
theorem JU{f:Value->Value->Sem Value}{g:Int->Int->Bool}
  (rule:∀(i j:Int)(t u:Tok)(s:Shared)(Q:Value->Shared->Prop)(E:Value->Shared->Prop),Q (.bool (g i j)) s->wpAny (model X.prog X.w) X.A (f (.int i t) (.int j u)) Q E s):
  iU X f (GP λi j=>.bl (g i j)):=by
 intro pins s σ H x y v u Q I rx ry h;obtain⟨i,j,rfl,rfl,q⟩:=h;obtain⟨t,rfl⟩:=rx;obtain⟨t',rfl⟩:=ry;exact rule i j t t' s _ _ ⟨.bl (g i j),H,I,rfl,q⟩
def Li(i j:Int):Prop:=0<j/\j<1073741824
def Km(i j:Int):Prop:=0<=j/\j<=1000000/\i.natAbs<2 ^ 64
def Jk(i j:Int):Prop:=(-(2 ^ 64)<i/\i<2 ^ 64)\/(-(2 ^ 64)<j/\j<2 ^ 64)
theorem Jk.ok{i j:Int}(h:Jk i j):IntMulOk i j:=by
 rcases h with⟨h1,h2⟩|⟨h1,h2⟩
 ·exact .of_left (intBits_le_64 h1 h2)
 ·exact .of_right (intBits_le_64 h1 h2)
theorem yh(k:Nat):(0:Int)<=2 ^ k:=by
 rw[two_pow_cast];exact Int.natCast_nonneg _
theorem Ii:iU X (binaryOp .Add) (GP λi j=>.int (i+j)):=G3 λ_ _ _ _ _ _ _ q=>add_int q
theorem I8:iU X (binaryOp .Sub) (GP λi j=>.int (i - j)):=G3 λ_ _ _ _ _ _ _ q=>sub_int q
theorem Ie:iU X (binaryOp .Mult) (rI Jk λi j=>.int (i * j)):=Jl λ_ _ _ _ _ _ _ hc q=>mul_int q hc.ok
theorem G0:iU X (binaryOp .FloorDiv) (rI Li λi j=>.int (i / j)):=Jl λi j _ _ _ _ _ hc q=>by
 have h1:(0:Int)<j:=hc.1;have h2:j<1073741824:=hc.2;exact floordiv_int (by omega) (by rw[Int.fdiv_eq_ediv_of_nonneg i (by omega)];exact q) (.inl (PyProof.noPylong_small (by omega)))
theorem Ig:iU X (binaryOp .Mod) (rI (λ_ j=>0<j) λi j=>.int (i % j)):=Jl λi j _ _ _ _ _ hc q=>by
 have h1:(0:Int)<j:=hc;exact mod_int' (by omega) (by rw[Int.fmod_eq_emod_of_nonneg i (by omega)];exact q)
theorem Ic:iU X (binaryOp .Pow) (rI Km λi j=>.int (i ^ j.toNat)):=Jl λ_ _ _ _ _ _ _ hc q=>pow_int_small hc.1 hc.2.1 hc.2.2 q
theorem Ia:iU X (binaryOp .LShift) (rI Km λi j=>.int (i * 2 ^ j.toNat)):=Jl λ_ _ _ _ _ _ _ hc q=>lshift_int_small hc.1 hc.2.1 hc.2.2 q
theorem I9:iU X (binaryOp .RShift) (rI (λ_ j=>0<=j) λi j=>.int (i / 2 ^ j.toNat)):=Jl λi j _ _ _ _ _ hc q=>
 rshift_int hc (by rw[Int.fdiv_eq_ediv_of_nonneg i (yh _)];exact q)
theorem Ih:iU X (binaryOp .BitAnd) (GP λi j=>.int (Builtin.bitAnd i j)):=G3 λ_ _ _ _ _ _ _ q=>and_int q
theorem JP:iU X (binaryOp .BitOr) (GP λi j=>.int (Builtin.bitOr i j)):=G3 λ_ _ _ _ _ _ _ q=>or_int q
theorem Lr{f:Value->Sem Value}{g:Int->Int}
  (rule:∀(i:Int)(t:Tok)(s:Shared)(Q:Value->Shared->Prop)(E:Value->Shared->Prop),Q (.int (g i) s.toks) {s with toks:=s.toks+1}->wpAny (model X.prog X.w) X.A (f (.int i t)) Q E s):
  Kr X f (rU λi=>.int (g i)):=by
 intro pins s σ H x v Q I rx h;obtain⟨i,rfl,q⟩:=h;obtain⟨t,rfl⟩:=rx;exact rule i t s _ _ ⟨.int (g i),H,I.tok _,⟨_,rfl⟩,q⟩
theorem Di:Kr X (unaryOp .USub) (rU λi=>.int (-i)):=Lr λ_ _ _ _ _ q=>neg_int q
end
def Hr:V->V->Bool
 |.non,.non=>true|.non,.int _=>true|.int _,.non=>true|.non,.bl _=>true|.bl _,.non=>true|.non,.str _=>true|.str _,.non=>true
 |.int _,.int _=>true|.bl _,.bl _=>true|.str _,.str _=>true|.byt _,.byt _=>true
 |.int _,.str _=>true|.str _,.int _=>true|.bl _,.str _=>true|.str _,.bl _=>true
 |_,_=>false
def LA:R2:=λx y H Q=>Hr x y=true/\Q (.bl (decide (x=y))) H
def Lz:R2:=λx y H Q=>Hr x y=true/\Q (.bl (!decide (x=y))) H
theorem AN{i j:Int}:decide (V.int i=V.int j)=(i == j):=by
 rw[Bool.eq_iff_iff];simp
theorem EY{i j:Bool}:decide (V.bl i=V.bl j)=(i == j):=by
 rw[Bool.eq_iff_iff];simp
theorem AM{i j:Str}:decide (V.str i=V.str j)=(i == j):=by
 rw[Bool.eq_iff_iff];simp
theorem AO{i j:Array UInt8}:decide (V.byt i=V.byt j)=(i.toList == j.toList):=by
 rw[Bool.eq_iff_iff];cases i;cases j;simp
section
variable{X:Cx}{a b c:Expr}{ta tb tc:TE}{pos:Pos}
theorem bw{pins:List (Addr×Obj)}{σ:St}{H:Hp}{s:Shared}{Q:VK}{k k':Bool}(I:aC X pins σ H s)(q:Q (.bl k) H)(e:k=k'):EP X pins σ Q (.bool k') s:=by
 subst e;exact⟨.bl k,H,I,rfl,q⟩
theorem JT:iU X (compareOp .Eq) LA:=by
 intro pins s σ H x y v u Q I rx ry h;obtain⟨hs,q⟩:=h;cases x with
 |non=>
  cases rx;cases y with
  |non=>cases ry;exact PySem.EqNone.eq_none_none (bw I q (by simp))
  |bl j=>cases ry;exact PySem.EqNone.eq_none_bool (bw I q (by simp))
  |int j=>obtain⟨t',rfl⟩:=ry;exact PySem.EqNone.eq_none_int (bw I q (by simp))
  |str j=>obtain⟨t',rfl⟩:=ry;exact PySem.EqNone.eq_none_str (bw I q (by simp))
  |_=>exact absurd (show false=true from hs) Bool.false_ne_true
 |bl i=>
  cases rx;cases y with
  |non=>cases ry;exact PySem.EqNone.eq_bool_none (bw I q (by simp))
  |bl j=>cases ry;exact eq_bool (bw I q EY)
  |str j=>obtain⟨t',rfl⟩:=ry;exact PySem.EqMixed.eq_bool_str (bw I q (by simp))
  |_=>exact absurd (show false=true from hs) Bool.false_ne_true
 |int i=>
  obtain⟨t,rfl⟩:=rx;cases y with
  |non=>cases ry;exact PySem.EqNone.eq_int_none (bw I q (by simp))
  |int j=>obtain⟨t',rfl⟩:=ry;exact eq_int (bw I q AN)
  |str j=>obtain⟨t',rfl⟩:=ry;exact PySem.EqMixed.eq_int_str (bw I q (by simp))
  |_=>exact absurd (show false=true from hs) Bool.false_ne_true
 |str i=>
  obtain⟨t,rfl⟩:=rx;cases y with
  |non=>cases ry;exact PySem.EqNone.eq_str_none (bw I q (by simp))
  |bl j=>cases ry;exact PySem.EqMixed.eq_str_bool (bw I q (by simp))
  |int j=>obtain⟨t',rfl⟩:=ry;exact PySem.EqMixed.eq_str_int (bw I q (by simp))
  |str j=>obtain⟨t',rfl⟩:=ry;exact eq_str (bw I q AM)
  |_=>exact absurd (show false=true from hs) Bool.false_ne_true
 |byt i=>
  obtain⟨t,rfl⟩:=rx;cases y with
  |byt j=>obtain⟨t',rfl⟩:=ry;exact PySem.W.eq_bytes (bw I q AO)
  |_=>exact absurd (show false=true from hs) Bool.false_ne_true
 |_=>cases y <;> exact absurd (show false=true from hs) Bool.false_ne_true
theorem JQ:iU X (compareOp .NotEq) Lz:=by
 intro pins s σ H x y v u Q I rx ry h;obtain⟨hs,q⟩:=h;cases x with
 |non=>
  cases rx;cases y with
  |non=>cases ry;exact PySem.EqNone.ne_none_none (bw I q (by simp))
  |bl j=>cases ry;exact PySem.EqNone.ne_none_bool (bw I q (by simp))
  |int j=>obtain⟨t',rfl⟩:=ry;exact PySem.EqNone.ne_none_int (bw I q (by simp))
  |str j=>obtain⟨t',rfl⟩:=ry;exact PySem.EqNone.ne_none_str (bw I q (by simp))
  |_=>exact absurd (show false=true from hs) Bool.false_ne_true
 |bl i=>
  cases rx;cases y with
  |non=>cases ry;exact PySem.EqNone.ne_bool_none (bw I q (by simp))
  |bl j=>cases ry;exact ne_bool (bw I q (congrArg not EY))
  |str j=>obtain⟨t',rfl⟩:=ry;exact PySem.EqMixed.ne_bool_str (bw I q (by simp))
  |_=>exact absurd (show false=true from hs) Bool.false_ne_true
 |int i=>
  obtain⟨t,rfl⟩:=rx;cases y with
  |non=>cases ry;exact PySem.EqNone.ne_int_none (bw I q (by simp))
  |int j=>obtain⟨t',rfl⟩:=ry;exact ne_int (bw I q (congrArg not AN))
  |str j=>obtain⟨t',rfl⟩:=ry;exact PySem.EqMixed.ne_int_str (bw I q (by simp))
  |_=>exact absurd (show false=true from hs) Bool.false_ne_true
 |str i=>
  obtain⟨t,rfl⟩:=rx;cases y with
  |non=>cases ry;exact PySem.EqNone.ne_str_none (bw I q (by simp))
  |bl j=>cases ry;exact PySem.EqMixed.ne_str_bool (bw I q (by simp))
  |int j=>obtain⟨t',rfl⟩:=ry;exact PySem.EqMixed.ne_str_int (bw I q (by simp))
  |str j=>obtain⟨t',rfl⟩:=ry;exact ne_str (bw I q (congrArg not AM))
  |_=>exact absurd (show false=true from hs) Bool.false_ne_true
 |byt i=>
  obtain⟨t,rfl⟩:=rx;cases y with
  |byt j=>obtain⟨t',rfl⟩:=ry;exact PySem.W.ne_bytes (bw I q (congrArg not AO))
  |_=>exact absurd (show false=true from hs) Bool.false_ne_true
 |_=>cases y <;> exact absurd (show false=true from hs) Bool.false_ne_true
theorem JR:iU X (compareOp .Lt) (GP λi j=>.bl (decide (i<j))):=JU λ_ _ _ _ _ _ _ q=>lt_int q
theorem JS:iU X (compareOp .Gt) (GP λi j=>.bl (decide (j<i))):=JU λ_ _ _ _ _ _ _ q=>gt_int q
theorem iU.or{f:Value->Value->Sem Value}{r r':R2}(h:iU X f r)(h':iU X f r'):iU X f (λx y H Q=>r x y H Q\/r' x y H Q):=by
 intro pins s σ H x y v u Q I rx ry q;rcases q with q|q
 ·exact h pins s σ H x y v u Q I rx ry q
 ·exact h' pins s σ H x y v u Q I rx ry q
theorem DZ(b:Expr){op:CmpOp}(h:op≠.In:=by decide)(h2:op≠.NotIn:=by decide):behindInMarks op b=false:=by
 have e1:(op == CmpOp.In)=false:=by cases op <;> first|rfl|exact absurd rfl h
 have e2:(op == CmpOp.NotIn)=false:=by cases op <;> first|rfl|exact absurd rfl h2
 cases b <;> simp[behindInMarks,e1,e2]
theorem FS{op:CmpOp}{r:R2}(ho:iU X (compareOp op) r)(ha:PE X a ta)(hb:PE X b tb)(hm:behindInMarks op b=false):PE X (.Compare a [op] [b] pos) (Jr r ta tb):=by
 intro pins s σ H Q I h;exact wpAny_Compare1 (IZ ha hb I h λv u s2 x y H2 I2 rx ry q=>ho pins s2 σ H2 x y v u Q I2 rx ry q) hm
def Jq(t:TE):TT:=λσ H Q=>t σ H λx H'=>∃k,x=.bl k/\Q k H'
theorem FE{op:CmpOp}{r:R2}(ho:iU X (compareOp op) r)(ha:PE X a ta)(hb:PE X b tb)(hm:behindInMarks op b=false):PT X (.Compare a [op] [b] pos) (Jq (Jr r ta tb)):=by
 intro pins s σ H Q I h;refine wpAny_isTrue_Compare1 (dA (ha pins s σ H _ I h) λv s1 ⟨x,H1,I1,r1,q1⟩=>dA (hb pins s1 σ H1 _ I1 q1) λu s2 ⟨y,H2,I2,r2,q2⟩=>
  dA (ho pins s2 σ H2 x y v u _ I2 r1 r2 q2) λc s3 ⟨z,H3,I3,r3,k,e,q3⟩=>?_) hm
 subst e;cases r3;exact wpAny_truthy_bool ⟨H3,I3,q3⟩
theorem qQ:(sizeLine:Nat)<2 ^ 63:=by rw[sizeLine_eq];decide
theorem yT:iU X (binaryOp .Add) (λx y H Q=>∃i j,x=.str i/\y=.str j/\i.length+j.length<=sizeLine/\Q (.str (i++j)) H):=by
 intro pins s σ H x y v u Q I rx ry h;obtain⟨i,j,rfl,rfl,hz,q⟩:=h;obtain⟨t,rfl⟩:=rx;obtain⟨t',rfl⟩:=ry;exact add_str (λt' tk=>⟨.str (i++j),H,I.tok _,⟨_,rfl⟩,q⟩) hz
theorem j0{x:V}{us:List Value}(r:Vals [x] us):∃u,us=[u]/\RelV x u:=by
 cases r with
 |cons r1 r2=>cases r2;exact⟨_,rfl,r1⟩
theorem GH{x y:V}{us:List Value}(r:Vals [x,y] us):∃u w',us=[u,w']/\RelV x u/\RelV y w':=by
 cases r with
 |cons r1 r2=>
  cases r2 with
  |cons r3 r4=>cases r4;exact⟨_,_,rfl,r1,r3⟩
end
structure A9(h:Heap)(x dx C:Addr)(mA:Str->Option Value):Prop where
 obj:h.get? x=some (instObj C dx)
 ns:h.Ns1 dx mA
 ne:dx≠x
theorem Cs{h:Heap}{dx:Addr}{mA:Str->Option Value}(n:h.Ns1 dx mA):∃od,h.get? dx=some od/\∀name,lookIn name od=some (mA name):=by
 obtain⟨o,es,ep,ho,hd,hk,_,hm⟩:=n;refine⟨o,ho,λname=>?_⟩;have e:=hm name;unfold nsFind findBy at e;rw[←Array.find?_toList] at e;unfold lookIn;rw[hd];dsimp only;split
 ·rename_i y q;rw[q] at e;exact congrArg some e
 ·rename_i q;rw[q] at e;have a:es.toList.any (·.refKey)=false:=by
   rw[List.any_eq_false];intro y hy;obtain⟨z,t,hkey⟩:=hk y (Array.mem_toList_iff.mp hy);simp[DictEntry.refKey,hkey]
  have a':¬es.toList.any (·.refKey)=true:=by rw[a];exact Bool.false_ne_true
  rw[if_neg a'];exact congrArg some e
theorem A9.look{h:Heap}{x dx C:Addr}{mA:Str->Option Value}(I:A9 h x dx C mA):∃od,PySem.W.InstAt h x (instObj C dx) C (some od)/\∀name,lookIn name od=some (mA name):=
 let ⟨od,ho,hl⟩:=Cs I.ns
 ⟨od,⟨I.obj,rfl,rfl,ho⟩,hl⟩
section
variable{prog:Program}{w:World}{A:Around}{E:Value->Shared->Prop}{s:Shared}{K:Frag}{x dx C f:Addr}{mA:Str->Option Value}{name:Str}{v:Value}
theorem Gk{expr:Bool}{Q:Value->Shared->Prop}(X:K.In s.heap)(I:A9 s.heap x dx C mA)(hg:plainGet K C name=true)(hh:hasDictIn K C=true)
  (ha:findIn K (.ref C) name=some none) (hv:mA name=some v) (hv':handedIn v=true) (h:Q v {s with toks:=s.toks+1}):
  wpAny (model prog w) A (getAttr (.ref x) name expr) Q E s:=by
 obtain⟨od,J,hl⟩:=I.look;exact PySem.W.get_value X J (plainGet_of hg).1 (PySem.W.findObj_own hh ha rfl (by rw[hl,hv])) hv' h
theorem EI{pl:Sem Bool}{Q:Value×List Value->Shared->Prop}(X:K.In s.heap)(I:A9 s.heap x dx C mA)(hg:plainGet K C name=true)
  (hf:findIn K (.ref C) name=some (some (.ref f))) (ht:isFn K (.ref f)=true) (hv:mA name=none) (h:Q (.ref f,[.ref x]) s):
  wpAny (model prog w) A (getMethod (.ref x) name pl) Q E s:=by
 obtain⟨od,J,hl⟩:=I.look;exact PySem.W.method_fn X J (plainGet_of hg).1 (plainGet_of hg).2 hf (beq_iff_eq.mp ht) (by show(lookIn name od).map (·.isSome)=some false;rw[hl,hv];rfl) h
theorem Fy{ns:List Str}{Q:Unit->Shared->Prop}(X:K.In s.heap)(I:A9 s.heap x dx C mA)
  (hs:findIn K (.ref C) "__setattr__" = some (some (.builtin "object.__setattr__"))) (hp:plainOver K C=true) (ht:takerIn K C name=some none) (hh:hasDictIn K C=true)
  (hw:PySem.Within mA ns) (hsz:ns.length<=sizeLine)
  (h:∀h',A9 h' x dx C (λy=>if y=name then some v else mA y)->Heap.SameBut dx s.heap h'->Q () {s with heap:=h',toks:=s.toks+2}):
  wpAny (model prog w) A (setAttr (.ref x) name v) Q E s:=by
 obtain⟨od,J,hl⟩:=I.look;refine PySem.W.set_plain X J hs (PySem.W.osa_open (s:={s with toks:=s.toks+1}) (r:=none) X J hp ht λb=>?_);obtain⟨cd,hc,hd'⟩:=PySem.W.any_some hh;have hx:s.heap.get? x=some ⟨.ref C,some dx,.plain,#[]⟩:=I.obj;refine wpAny_bind (wpAny_pure (wpAny_bind (wpAny_bind (wpAny_loadPart hx (wpAny_bind (PySem.W.Looks.here (s:={s with toks:=s.toks+1}) (PySem.W.looks_clsIn X hc) ?_))))));rw[hd'];refine wpAny_pure (a:=some dx) (wpAny_bind (wpAny_pure (wpAny_bind ?_)));refine wpAny_nsSet1 (s:={s with toks:=s.toks+1}) I.ns λh' hn2 hs2=>?_;obtain⟨oD,esD,epD,hoD,hdD,hcD⟩:=hn2.count (PySem.Within.cons name v hw);refine wpAny_bind (wpAny_lookBehind hoD (by rw[hdD];exact pastItsLine_dict (le_trans hcD (by rw[length_cons];omega))) ?_)
 exact wpAny_pure (h _ ⟨(hs2.2 _ (Ne.symm I.ne)).trans I.obj,hn2,I.ne⟩ hs2)
theorem Ef{R:Result->Shared->Prop}{vs:List Value}{kw:List (Str×Value)}(X:K.In s.heap)(hm:makesIn K C=true)
  (hi:findIn K (.ref C) "__init__" = some (some (.ref f))) (hf:PySem.W.typeIn K (.ref f)=some (.type "function"))
  (h:codeAny (model prog w) (A.under (.builtin "type.__call__" ⟨.ref C::vs,kw⟩)) (.call (.ref f) ⟨.ref (s.heap.objs.size+1)::vs,kw⟩) (PySem.W.InitBack (s.heap.objs.size+1) R)
   {s with heap:=(s.heap.push emptyDict).push (instObj C s.heap.objs.size)}):
  codeAny (model prog w) A (.call (.ref C) ⟨vs,kw⟩) R s:=by
 obtain⟨hh,g,d,t,os⟩:=s;exact PySem.W.make_core (PySem.W.makes_of X hm) (PySem.W.looks_findIn X hi) (λself=>PySem.W.bind_fn X self hf) (.inl rfl) h
end
def lr(f:Str)(v:V):List (Str×V)->List (Str×V)
 |[]=>[(f,v)]
 | (g,x)::r=>if g=f then(g,v)::r else(g,x)::lr f v r
theorem p4(f g:Str)(v:V):∀fs:List (Str×V),(lr f v fs).lookup g=if g=f then some v else fs.lookup g
 |[]=>by
  show List.lookup g [(f,v)]=_;by_cases h:g=f
  ·have hb:(g == f)=true:=beq_iff_eq.mpr h;simp only[List.lookup,hb,if_pos h]
  ·have hb:(g == f)=false:=beq_eq_false_iff_ne.mpr h;simp only[List.lookup,hb,if_neg h]
 | (k,x)::r=>by
  have ih:=p4 f g v r;rw[show lr f v ((k,x)::r)=(if k=f then(k,v)::r else(k,x)::lr f v r) from rfl];by_cases hk:k=f
  ·rw[if_pos hk];by_cases h:g=k
   ·have hb:(g == k)=true:=beq_iff_eq.mpr h;simp only[List.lookup,hb,if_pos (h.trans hk)]
   ·have hb:(g == k)=false:=beq_eq_false_iff_ne.mpr h;simp only[List.lookup,hb,if_neg (λe:g=f=>h (e.trans hk.symm))]
  ·rw[if_neg hk];by_cases h:g=k
   ·have hb:(g == k)=true:=beq_iff_eq.mpr h;simp only[List.lookup,hb,if_neg (λe:g=f=>hk (h.symm.trans e))]
   ·have hb:(g == k)=false:=beq_eq_false_iff_ne.mpr h;simp only[List.lookup,hb];exact ih
theorem oF(f:Str)(v:V):∀fs:List (Str×V),f∈(lr f v fs).map (·.1)/\∀g,g∈fs.map (·.1)->g∈(lr f v fs).map (·.1)
 |[]=>⟨by simp[lr],λg h=>by simp at h⟩
 | (k,x)::r=>by
  obtain⟨i1,i2⟩:=oF f v r;rw[show lr f v ((k,x)::r)=(if k=f then(k,v)::r else(k,x)::lr f v r) from rfl];by_cases hk:k=f
  ·rw[if_pos hk];subst hk;exact⟨by simp,λg h=>by simpa using h⟩
  ·rw[if_neg hk];refine⟨?_,λg h=>?_⟩
   ·rw[map_cons];exact mem_cons_of_mem _ i1
   ·rw[map_cons] at h ⊢;rcases mem_cons.mp h with e|e
    ·exact mem_cons.mpr (.inl e)
    ·exact mem_cons_of_mem _ (i2 g e)
theorem p7(f:Str)(v:V):∀fs:List (Str×V),(lr f v fs).length<=fs.length+1
 |[]=>by simp[lr]
 | (k,x)::r=>by
  have ih:=p7 f v r;rw[show lr f v ((k,x)::r)=(if k=f then(k,v)::r else(k,x)::lr f v r) from rfl];by_cases hk:k=f
  ·rw[if_pos hk,length_cons,length_cons];omega
  ·rw[if_neg hk,length_cons,length_cons];omega
theorem RelO.some_of{v:V}{o:Option Value}(r:RelO (some v) o):∃u,o=some u/\RelV v u:=by
 cases o with
 |none=>exact(show False from r).elim
 |some u=>exact⟨u,rfl,r⟩
theorem RelO.none_of{o:Option Value}(r:RelO none o):o=none:=by
 cases o with
 |none=>rfl
 |some u=>exact(show False from r).elim
theorem CH{v:V}{u:Value}(r:RelV v u):handedIn u=true:=by
 cases v with
 |non=>cases (show u=Value.none from r);rfl
 |bl b=>cases (show u=Value.bool b from r);rfl
 |int i=>obtain⟨t,e⟩:=(show ∃t,u=Value.int i t from r);cases e;rfl
 |str x=>obtain⟨t,e⟩:=(show ∃t,u=Value.str x t from r);cases e;rfl
 |byt b=>obtain⟨t,e⟩:=(show ∃t,u=Value.bytes b t from r);cases e;rfl
 |flt b=>obtain⟨t,e⟩:=(show ∃t,u=Value.float b t from r);cases e;rfl
 |ref a=>cases (show u=Value.ref a from r);rfl
 |ty n=>cases (show u=Value.type n from r);rfl
section
variable{P:Program}{w:World}{H H':Hp}{h h':Heap}{a C dx:Addr}{fs fs':List (Str×V)}
theorem pM(hok:lV P w H h)(e:H a=some (.ins C dx fs)):∃mA,A9 h a dx C mA/\(∀f,RelO (fs.lookup f) (mA f))/\PySem.Within mA (fs.map (·.1))/\fs.length<=1000/\H dx=some (.own a):=by
 obtain⟨d,z,ne,ob,mA,n,r,q⟩:=(show ck P w H h a (.ins C dx fs) from hok a _ e);exact⟨mA,⟨ob,n,ne⟩,r,q,z,d⟩
end
structure jR(K:Frag)(C:Addr):Prop where
 pg:plainGet K C Str.empty=true
 hd:hasDictIn K C=true
 po:plainOver K C=true
 sa:findIn K (.ref C) "__setattr__" = some (some (.builtin "object.__setattr__"))
theorem jR.get{K:Frag}{C:Addr}(c:jR K C)(f:Str):plainGet K C f=true:=c.pg
def cq(K:Frag)(C:Addr)(f:Str):Prop:=findIn K (.ref C) f=some none
theorem cq.taker{K:Frag}{C:Addr}{f:Str}(n:cq K C f):takerIn K C f=some none:=by
 unfold takerIn;rw[show findIn K (.ref C) f=some none from n];rfl
structure Jg(K:Frag)(C:Addr)(m:Str)(f:Addr):Prop where
 at_:findIn K (.ref C) m=some (some (.ref f))
 fn:isFn K (.ref f)=true
 kp:keepIn K (.ref f)=true
section
variable{X:Cx}{pins:List (Addr×Obj)}{σ:St}{H:Hp}{s:Shared}{a C dx:Addr}{fs:List (Str×V)}{f:Str}{v:V}{A:Around}{E:Value->Shared->Prop}
theorem zO{b:Bool}{Q:Value->Shared->Prop}(I:aC X pins σ H s)(e:H a=some (.ins C dx fs))(c:jR X.K C)(n:cq X.K C f)(l:fs.lookup f=some v)
  (h:∀u s',aC X pins σ H s'->RelV v u->Q u s'):wpAny (model X.prog X.w) A (getAttr (.ref a) f b) Q E s:=by
 obtain⟨mA,O,r,_,_,_⟩:=pM I.hok e;obtain⟨u,hu,ru⟩:=RelO.some_of (v:=v) (o:=mA f) (by rw[←l];exact r f)
 exact Gk I.kIn O (c.get f) c.hd n hu (CH ru) (h u _ (I.tok _) ru)
theorem qV{m:Str}{g:Addr}{pl:Sem Bool}{Q:Value×List Value->Shared->Prop}(I:aC X pins σ H s)(e:H a=some (.ins C dx fs))(c:jR X.K C)(k:Jg X.K C m g)(l:fs.lookup m=none)
  (h:Q (.ref g,[.ref a]) s):wpAny (model X.prog X.w) A (getMethod (.ref a) m pl) Q E s:=by
 obtain⟨mA,O,r,_,_,_⟩:=pM I.hok e;have hn:mA m=none:=RelO.none_of (by rw[←l];exact r m)
 exact EI I.kIn O (c.get m) k.at_ k.fn hn h
theorem yu{y:V}{u:Value}{Q:Unit->Shared->Prop}(I:aC X pins σ H s)(e:H a=some (.ins C dx fs))(c:jR X.K C)(n:cq X.K C f)(hl:fs.length<1000)(ry:RelV y u)
  (h:∀s',aC X pins σ (c8 H a (.ins C dx (lr f y fs))) s'->Q () s'):wpAny (model X.prog X.w) A (setAttr (.ref a) f u) Q E s:=by
 obtain⟨mA,O,r,wi,_,ho⟩:=pM I.hok e;have hz:(fs.map (·.1)).length<=sizeLine:=by rw[length_map,sizeLine_eq];omega
 refine Fy I.kIn O c.sa c.po n.taker c.hd wi hz λh' O' sb=>h _ ?_;have hd:∃o,h'.get? dx=some o:=let ⟨o,_,_,e',_⟩:=O'.ns;⟨o,e'⟩;refine I.write (x:=a) (e:=dx) (by rw[e];exact True.intro) (.inr ho) (λb q hb z=>(sb.2 b hb).trans z) hd ?_
 refine⟨by rw[av O.ne];exact ho,?_,O.ne,O'.obj,_,O'.ns,λg=>?_,λg hg=>?_⟩
 ·have:=p7 f y fs;omega
 ·show RelO ((lr f y fs).lookup g) (if g=f then some u else mA g);rw[p4];by_cases q:g=f
  ·rw[if_pos q,if_pos q];exact ry
  ·rw[if_neg q,if_neg q];exact r g
 ·by_cases q:g=f
  ·rw[q];exact(oF f y fs).1
  ·refine(oF f y fs).2 g (wi g λz=>hg ?_);show(if g=f then some u else mA g)=none;rw[if_neg q];exact z
theorem aC.made(I:aC X pins σ H s):aC X pins σ (c8 (c8 H s.heap.objs.size (.own (s.heap.objs.size+1))) (s.heap.objs.size+1) (.ins C s.heap.objs.size []))
  {s with heap:=(s.heap.push emptyDict).push (instObj C s.heap.objs.size)}:=by
 have e1:(s.heap.push emptyDict).get? s.heap.objs.size=some emptyDict:=get?_push_size s.heap rfl;have e2:((s.heap.push emptyDict).push (instObj C s.heap.objs.size)).get? (s.heap.objs.size+1)=some (instObj C s.heap.objs.size):=by
  have:=get?_push_size (s.heap.push emptyDict) (o:=instObj C s.heap.objs.size) rfl;rwa[size_push] at this
 have e3:(s.heap.push emptyDict).Ns s.heap.objs.size (λ_=>none):=⟨emptyDict,#[],_,e1,rfl,(λe he=>absurd he (by simp)),λ_=>rfl⟩
 have I1:=I.laid (a:=s.heap.objs.size) (o:=.own (s.heap.objs.size+1)) (h':=s.heap.push emptyDict) (t':=s.toks) (λb u q=>get?_push_of_some _ q) (le_refl _) ⟨_,e1⟩;refine I1.laid (a:=s.heap.objs.size+1) (o:=.ins C s.heap.objs.size []) (t':=s.toks) (λb u q=>get?_push_of_some _ q) (le_of_eq (size_push _ _)) ?_;have ne:s.heap.objs.size≠s.heap.objs.size+1:=ne_of_lt (lt_succ_self _);refine⟨by rw[av ne,aB],zero_le _,ne,e2,λ_=>none,(Heap.Ns1.of_empty e3).at λo q=>get?_push_of_some _ q,λ_=>True.intro,λy hy=>absurd rfl hy⟩
theorem GC{prog:Program}{w:World}{env:Env}{e:Expr}{f:Str}{pos:Pos}{s:Shared}{Q:Value->Shared->Prop}(hb:attributeBase e f env (eval e env)=eval e env)
  (h:wpAny (model prog w) A (eval e env) (λo s₁=>wpAny (model prog w) A (getAttr o f true) Q E s₁) E s):wpAny (model prog w) A (eval (.Attribute e f pos) env) Q E s:=
 Attribute_any_ h (by rw[arm_eval_Attribute,hb])
end
def KF(K:Frag)(ta:TE)(f:Str):TE:=λσ H Q=>ta σ H λx H1=>∃a C dx fs v,x=.ref a/\H1 a=some (.ins C dx fs)/\jR K C/\cq K C f/\fs.lookup f=some v/\Q v H1
def KL(K:Frag)(ta tv:TE)(f:Str):TS:=λD σ H=>tv σ H λy H1=>ta σ H1 λx H2=>∃a C dx fs,x=.ref a/\H2 a=some (.ins C dx fs)/\jR K C/\cq K C f/\fs.length<1000/\
 D.nx σ (c8 H2 a (.ins C dx (lr f y fs)))
section
variable{X:Cx}{o e value:Expr}{f:Str}{pos pos' tpos:Pos}{ta tv:TE}
theorem HS(he:PE X e ta)(hb:attributeBase e f X.env (eval e X.env)=eval e X.env):PE X (.Attribute e f pos) (KF X.K ta f):=by
 intro pins s σ H Q I h;refine GC hb (dA (he pins s σ H _ I h) λu s1 ⟨x,H1,I1,rx,a,C,dx,fs,v,ex,ea,c,n,l,q⟩=>?_);subst ex;obtain rfl:u=Value.ref a:=rx;exact zO I1 ea c n l λu' s2 I2 ru=>⟨v,H1,I2,ru,q⟩
theorem HH(ha:PE X o ta)(hv:PE X value tv)(hs:swapsWith value (some (.Attribute o f pos')) pos.line X.env=pure false):PS X (.Assign [.Attribute o f pos'] value pos) (KL X.K ta tv f):=by
 intro pins s σ H D I h;refine plainObj_wpAny_Assign_Attribute (dA (hv pins s σ H _ I h) λu s1 ⟨y,H1,I1,ry,q⟩=>dA (ha pins s1 σ H1 _ I1 q) λov s2 ⟨x,H2,I2,rx,a,C,dx,fs,ex,ea,c,n,l,q2⟩=>?_) hs;subst ex;obtain rfl:ov=Value.ref a:=rx;exact yu I2 ea c n l ry λs3 I3=>⟨σ,_,I3,q2⟩
end
section
variable{X:Cx}{pins:List (Addr×Obj)}{σ:St}{H:Hp}{s:Shared}{A:Around}{E:Value->Shared->Prop}{Q:Value->Shared->Prop}{c:Value}{b:Bool}
inductive ng(K:Frag)(H:Hp):V->Value->Prop where
 |non:ng K H .non (.type "NoneType")
 |bl (x:Bool):ng K H (.bl x) (.type "bool")
 |int (i:Int):ng K H (.int i) (.type "int")
 |str (x:Str):ng K H (.str x) (.type "str")
 |flt (x:UInt64):ng K H (.flt x) (.type "float")
 |lst {a:Addr} {xs:List V} (e:H a=some (.lst xs)):ng K H (.ref a) (.type "list")
 |frz {a:Addr} {o:Obj} {xs:List V} (e:H a=some (.frz o (.lst xs))):ng K H (.ref a) (.type "list")
 |tup {a:Addr} {xs:List V} (e:H a=some (.tup xs)):ng K H (.ref a) (.type "tuple")
 |dK {a:Addr} {kvs:List (Key×V)} (e:H a=some (.dK kvs)):ng K H (.ref a) (.type "dict")
 |dT {a:Addr} {kvs:List (List Key×V)} (e:H a=some (.dT kvs)):ng K H (.ref a) (.type "dict")
 |ins {a C dx:Addr} {fs:List (Str×V)} (e:H a=some (.ins C dx fs)) (cl:jR K C) (ha:findIn K (.ref C) "__class__" = some (some (.builtin "object.__class__")))
   (hn:specialIn K (.builtin "object.__class__") "__get__" = some (some (.builtin "getset_descriptor.__get__"))) (htk:PySem.W.takesIn K (.builtin "object.__class__")=some true)
   (hm:PySem.W.mroIn K C (.type "object")=some true):ng K H (.ref a) (.ref C)
theorem CD{x:V}{u t:Value}(I:aC X pins σ H s)(rx:RelV x u)(ty:ng X.K H x t)(e:kitOne X.K t c=some b)(h:∀tk,Q (.bool b) {s with toks:=tk}):
  wpAny (model X.prog X.w) A (call (.builtin "isinstance") [u,c]) Q E s:=by
 cases ty with
 |non=>cases (show u=Value.none from rx);exact kia_one PySem.W.kitx_none I.kIn True.intro e (λz=>nomatch z) h
 |bl y=>cases (show u=Value.bool y from rx);exact kia_one PySem.W.kitx_bool I.kIn True.intro e (λz=>nomatch z) h
 |int i=>obtain⟨t,q⟩:=(show ∃t,u=Value.int i t from rx);cases q;exact kia_one PySem.W.kitx_int I.kIn True.intro e (λz=>nomatch z) h
 |str y=>obtain⟨t,q⟩:=(show ∃t,u=Value.str y t from rx);cases q;exact kia_one PySem.W.kitx_str I.kIn True.intro e (λz=>nomatch z) h
 |flt y=>obtain⟨t,q⟩:=(show ∃t,u=Value.float y t from rx);cases q;exact kia_one PySem.W.kitx_float I.kIn True.intro e (λz=>nomatch z) h
 |@lst a xs ea=>
  cases (show u=Value.ref a from rx);obtain⟨_,_,n,_,h1⟩:=(show ck X.prog X.w H s.heap a (.lst xs) from I.hok a _ ea);exact kia_one kitx_list I.kIn ⟨_,h1,rfl⟩ e (λz=>nomatch z) h
 |@frz a ob xs ea=>
  cases (show u=Value.ref a from rx);obtain⟨_,_,_,n,_,h1⟩:=(show ck X.prog X.w H s.heap a (.frz ob (.lst xs)) from I.hok a _ ea);exact kia_one kitx_list I.kIn ⟨_,h1,rfl⟩ e (λz=>nomatch z) h
 |@tup a xs ea=>
  cases (show u=Value.ref a from rx);obtain⟨_,_,_,p⟩:=(show ck X.prog X.w H s.heap a (.tup xs) from I.hok a _ ea);obtain⟨o,h1,h2,_⟩:=p;exact kia_one PySem.W.kitx_tuple I.kIn ⟨o,h1,h2⟩ e (λz=>nomatch z) h
 |@dK a kvs ea=>
  cases (show u=Value.ref a from rx);obtain⟨_,_,vs,_,p⟩:=(show ck X.prog X.w H s.heap a (.dK kvs) from I.hok a _ ea);obtain⟨o,es,ep,h1,h2,_⟩:=p;exact kia_one kitx_dict I.kIn ⟨o,h1,h2.1⟩ e (λz=>nomatch z) h
 |@dT a kvs ea=>
  cases (show u=Value.ref a from rx);obtain⟨_,_,xs,_,o,es,ep,h1,h2,_⟩:=(show ck X.prog X.w H s.heap a (.dT kvs) from I.hok a _ ea);exact kia_one kitx_dict I.kIn ⟨o,h1,h2.1⟩ e (λz=>nomatch z) h
 |@ins a C dx fs ea cl ha hn htk hm=>
  cases (show u=Value.ref a from rx);obtain⟨mA,O,_⟩:=pM I.hok ea;obtain⟨od,J,_⟩:=O.look;exact kia_one (PySem.W.kitx_own (cl.get _) cl.hd ha hn htk hm) I.kIn J e (λz=>nomatch z) h
end
structure bN(k:Nat)(A:Around):Prop where
 hd:A.handled=none
 dp:A.depth+3 * k+5<recursionLimit
 un:A.units+16 * k+200<cLine
theorem bN.mono{j k:Nat}{A:Around}(r:bN k A)(h:j<=k):bN j A:=⟨r.hd,by have:=r.dp;omega,by have:=r.un;omega⟩
theorem bN.deeper{k:Nat}{A:Around}(r:bN (k+1) A)(env:Env):bN k (A.deeper env):=
 ⟨r.hd,by have:=r.dp;show A.depth+1+3 * k+5<_;omega,by have:=r.un;show A.units+3+16 * k+200<_;omega⟩
theorem bN.in1{k:Nat}{A:Around}(r:bN (k+1) A):bN k A.in1:=
 ⟨r.hd,by have:=r.dp;show A.depth+3 * k+5<_;omega,by have:=r.un;show A.units+1+16 * k+200<_;omega⟩
theorem zv{A:Around}{C:Addr}{us:List Value}{kw:List (Str×Value)}:(A.under (.builtin "type.__call__" ⟨.ref C::us,kw⟩)).depth=A.depth+1:=by
 first|rfl|simp[Around.under,Code.weight,Code.isCreation,Code.isGuard,Code.isCaller,Code.frames,Code.isFrame,guardIds]
theorem zu{A:Around}{C:Addr}{us:List Value}{kw:List (Str×Value)}:(A.under (.builtin "type.__call__" ⟨.ref C::us,kw⟩)).units=A.units+1:=by
 first|rfl|simp[Around.under,Code.cUnits,Code.frames,Code.isFrame]
theorem bN.make{k:Nat}{A:Around}(r:bN (k+1) A)(C:Addr)(us:List Value)(kw:List (Str×Value)):bN k (A.under (.builtin "type.__call__" ⟨.ref C::us,kw⟩)):=
 ⟨r.hd,by have:=r.dp;rw[zv];omega,by have:=r.un;rw[zu];omega⟩
theorem bN.depth{k:Nat}{A:Around}(r:bN k A):A.depth<recursionLimit:=by have:=r.dp;omega
theorem bN.units{k:Nat}{A:Around}(r:bN k A):A.units+64<cLine:=by have:=r.un;omega
def Bc:TA:=λ_ H Q=>Q [] H
def sO(ta:TE)(tr:TA):TA:=λσ H Q=>ta σ H λx H1=>tr σ H1 λxs H2=>Q (x::xs) H2
section
variable{X:Cx}{e:Expr}{es:List Expr}{te:TE}{t:TA}{pos:Pos}
theorem dY:PA X [] Bc:=λ_ _ _ _ H Q I h=>Calls.spliced_nil ⟨[],H,I,.nil,h⟩
theorem br(ha:PE X e te)(hr:PA X es t)(hs:starEach (e::es) X.env=(false,eval e X.env)::starEach es X.env:=by rfl):PA X (e::es) (sO te t):=by
 intro pos pins s σ H Q I h;rw[hs];show wpAny _ _ (spliced ((false,eval e X.env)::backTo pos (starEach es X.env))) _ _ s;refine Calls.spliced_cons (dA (ha pins s σ H _ I h) λu s1 ⟨x,H1,I1,r1,q1⟩=>?_);exact dA (hr pos pins s1 σ H1 _ I1 q1) λus s2 ⟨xs,H2,I2,r2,q2⟩=>⟨x::xs,H2,I2,.cons r1 r2,q2⟩
def Kw(t:TA):TE:=λσ H Q=>t σ H λxs H1=>xs.length<=sizeLine/\∀p,H1 p=none->Q (.ref p) (c8 H1 p (.tup xs))
def KA(t:TA):TE:=λσ H Q=>t σ H λxs H1=>xs.length<=sizeLine/\∀p,H1 p=none->Q (.ref p) (c8 H1 p (.lst xs))
theorem DM{x1}(h:PA X es t):PE X (.Tuple es x1 pos) (Kw t):=by
 intro pins s σ H Q I hq;refine wpAny_Tuple_spliced (dA (h pos pins s σ H _ I hq) λus s1 ⟨xs,H1,I1,r,z,q⟩=>⟨by rw[←r.length];exact z,?_⟩)
 have hf:H1 s1.heap.objs.size=none:=I1.hok.fresh (le_refl _);refine⟨.ref s1.heap.objs.size,c8 H1 s1.heap.objs.size (.tup xs),I1.laid (t':=s1.toks) (λb u e=>get?_push_of_some _ e) (le_refl _) ?_,rfl,q _ hf⟩;exact⟨z,us,r,⟨_,get?_push_size _ rfl,rfl,_,rfl⟩⟩
theorem HQ(h:PA X es t):PE X (.List es pos) (KA t):=by
 intro pins s σ H Q I hq;refine wpAny_List_spliced (dA (h pos pins s σ H _ I hq) λus s1 ⟨xs,H1,I1,r,z,q⟩=>⟨by rw[←r.length];exact z,?_⟩)
 have hf:H1 s1.heap.objs.size=none:=I1.hok.fresh (le_refl _);refine⟨.ref s1.heap.objs.size,c8 H1 s1.heap.objs.size (.lst xs),I1.laid (t':=s1.toks) (λb u e=>get?_push_of_some _ e) (le_refl _) ?_,rfl,q _ hf⟩;exact⟨z,us,0,r,get?_push_size _ rfl⟩
end
abbrev Sp:=List V->Hp->VK->XK->Prop
abbrev B7:=List Env->Hp->Shared->XK->Value->Shared->Prop
structure lW(P:Program)(w:World)(K:Frag)(mg:Str->Option Value)(base:Heap)(A:Around)(outer:List Env)(s:Shared)(H:Hp):Prop where
 frames:A.frames=some outer
 mod:Mod K mg base
 bs:∀b o,base.get? b=some o->s.heap.get? b=some o/\H b=none
 bsz:base.objs.size<=s.heap.objs.size
 funs:s.heap.FunFrames base outer
 frf:∀b∈frs outer,H b=none
 hok:lV P w H s.heap
 bare:AllBare s.gens
def CE(outer:List Env)(P:Program)(w:World)(H:Hp)(s:Shared)(Q:VK)(u:Value)(s':Shared):Prop:=
 ∃v H',s'.os=s.os/\AllBare s'.gens/\Un (frs outer) [] H H' s.heap s'.heap/\lV P w H' s'.heap/\RelV v u/\Q v H'
def CR(CX:B7)(outer:List Env)(P:Program)(w:World)(H:Hp)(s:Shared)(Q:VK)(E:XK)(r:Result)(s':Shared):Prop:=
 match r with
 |.ok (.ret u)=>CE outer P w H s Q u s'
 |.ok _=>False
 |.error e=>CX outer H s E e s'
structure dQ(P:Program)(w:World)(K:Frag)(mg:Str->Option Value)(base:Heap)(CX:B7)(k:Nat)(f:Addr)(fd:FuncData)(ps:List Str)(sp:Sp):Prop where
 len:∀vs H Q E,sp vs H Q E->vs.length=ps.length
 run:∀(A:Around)(outer:List Env)(s:Shared)(H:Hp)(args:Args)(us:List Value)(vs:List V)(Q:VK)(E:XK),bN k A->lW P w K mg base A outer s H->BindsTo s fd args (ps.zip us)->Vals vs us->sp vs H Q E->
  codeAny (model P w) A (.call (.ref f) args) (CR CX outer P w H s Q E) s
theorem dQ.mono{P:Program}{w:World}{K:Frag}{mg:Str->Option Value}{base:Heap}{CX:B7}{j k:Nat}{f:Addr}{fd:FuncData}{ps:List Str}{sp:Sp}(F:dQ P w K mg base CX j f fd ps sp)(h:j<=k):
  dQ P w K mg base CX k f fd ps sp:=⟨F.len,λA outer s H args us vs Q E hr=>F.run A outer s H args us vs Q E (hr.mono h)⟩
theorem dQ.imp{P:Program}{w:World}{K:Frag}{mg:Str->Option Value}{base:Heap}{CX:B7}{k:Nat}{f:Addr}{fd:FuncData}{ps:List Str}{sp sp':Sp}(F:dQ P w K mg base CX k f fd ps sp)
  (h:∀vs H Q E,sp' vs H Q E->sp vs H Q E):dQ P w K mg base CX k f fd ps sp':=
 ⟨λvs H Q E q=>F.len vs H Q E (h _ _ _ _ q),λA outer s H args us vs Q E hr he hb hv hs=>F.run A outer s H args us vs Q E hr he hb hv (h _ _ _ _ hs)⟩
theorem lW.make{P:Program}{w:World}{K:Frag}{mg:Str->Option Value}{base:Heap}{A:Around}{outer:List Env}{s:Shared}{H:Hp}(e:lW P w K mg base A outer s H)(C:Addr)(us:List Value)(kw:List (Str×Value)):
  lW P w K mg base (A.under (.builtin "type.__call__" ⟨.ref C::us,kw⟩)) outer s H:=⟨by first|exact e.frames|(simpa [Around.under,Code.envs,Code.isFrame,pushEnvs] using e.frames),e.mod,e.bs,e.bsz,e.funs,e.frf,e.hok,e.bare⟩
theorem lW.in1{P:Program}{w:World}{K:Frag}{mg:Str->Option Value}{base:Heap}{A:Around}{outer:List Env}{s:Shared}{H:Hp}(e:lW P w K mg base A outer s H):
  lW P w K mg base A.in1 outer s H:=⟨e.frames,e.mod,e.bs,e.bsz,e.funs,e.frf,e.hok,e.bare⟩
section
variable{X:Cx}{pins:List (Addr×Obj)}{σ:St}{H:Hp}{s s':Shared}
theorem aC.env0(I:aC X pins σ H s):lW X.prog X.w X.K X.mg X.base X.A X.stack s H:=
 ⟨I.ok.frames,I.ok.mod,I.bs,le_trans I.ok.bsz I.sz,I.stack,I.stkFree,I.hok,I.bare⟩
theorem aC.after{Q:VK}{u:Value}(I:aC X pins σ H s)(h:CE X.stack X.prog X.w H s Q u s'):EP X pins σ Q u s':=by
 obtain⟨v,H',os,bare,un,hok,r,q⟩:=h;obtain⟨hh,g,d,t,os'⟩:=s';obtain rfl:os'=s.os:=os;exact⟨v,H',I.call (h':=hh) (g':=g) (d':=d) (t':=t) (ch:=[]) un hok bare (λb z=>absurd z (by simp)),r,q⟩
end
def GK(sp:Sp)(dvs:List V)(E:XK)(t:TA):TE:=λσ H Q=>t σ H λvs H1=>sp (vs++dvs) H1 Q E
def GJ(C:Addr)(sp:Sp)(dvs:List V)(E:XK)(t:TA):TE:=λσ H Q=>t σ H λvs H1=>∀x dx,H1 x=none->H1 dx=none->dx≠x->
 sp (.ref x::(vs++dvs)) (c8 (c8 H1 dx (.own x)) x (.ins C dx [])) (λv H2=>v=.non/\Q (.ref x) H2) E
def gy(K:Frag)(fd:FuncData)(ps:List Str)(ds:List Value):Prop:=
 ∀(s:Shared)(us:List Value),K.In s.heap->(us++ds).length=ps.length->BindsTo s fd ⟨us,[]⟩ (ps.zip (us++ds))
theorem gy.all{K:Frag}{fd:FuncData}{ps:List Str}(h:∀us:List Value,us.length=ps.length->bindArgs fd ⟨us,[]⟩=pure (ps.zip us)):gy K fd ps []:=λs us _ hl=>by
 rw[append_nil] at hl ⊢;exact .of_eq (h us hl)
def oQ(CX:B7)(X:Cx)(E:XK):Prop:=∀(pins:List (Addr×Obj))(σ:St)(H:Hp)(s:Shared)(e:Value)(s':Shared),aC X pins σ H s->CX X.stack H s E e s'->X.xe e s'
section
variable{X:Cx}{CX:B7}{k:Nat}{f C:Addr}{fd:FuncData}{ps:List Str}{sp:Sp}{dvs:List V}{ds:List Value}{E:XK}{x m:Str}{p pos apos:Pos}{e o:Expr}{es:List Expr}{ta:TE}{t:TA}
theorem ux{pins:List (Addr×Obj)}{σ:St}{H:Hp}{s:Shared}{Q:VK}{us:List Value}{vs:List V}(F:dQ X.prog X.w X.K X.mg X.base CX k f fd ps sp)(hr:bN k X.A)(hb:gy X.K fd ps ds)(hd:Vals dvs ds)(hx:oQ CX X E)
  (I:aC X pins σ H s) (r:Vals vs us) (h:sp (vs++dvs) H Q E):wpAny (model X.prog X.w) X.A (call (.ref f) us) (EP X pins σ Q) X.xe s:=by
 have r2:Vals (vs++dvs) (us++ds):=r.append hd;have hl:(us++ds).length=ps.length:=by rw[←r2.length];exact F.len _ _ _ _ h
 refine wpAny_call (codeAny_mono (F.run X.A X.stack s H ⟨us,[]⟩ (us++ds) (vs++dvs) Q E hr I.env0 (hb s us I.kIn hl) r2 h) λr s' hq=>?_);cases r with
 |error e=>exact hx pins σ H s e s' I hq
 |ok fl=>
  cases fl with
  |ret u=>exact I.after hq
  |next=>exact False.elim hq
  |brk=>exact False.elim hq
  |cont=>exact False.elim hq
theorem uE(F:dQ X.prog X.w X.K X.mg X.base CX k f fd ps sp)(hr:bN k X.A)(hg:Gl X x)(hm:X.mg x=some (.ref f))(hk:keepIn X.K (.ref f)=true)(hb:gy X.K fd ps ds)(hd:Vals dvs ds)(hx:oQ CX X E)
  (ha:PA X (e::es) t) (hdb:(x == ("__debug__":Str))=false:=by decide) (he:starEach (e::es) X.env=(false,eval e X.env)::starEach es X.env:=by rfl) (hpl:(backTo pos (starEach es X.env)).any (·.1)=false:=by rfl):
  PE X (.Call (.Name x p) (e::es) [] pos) (GK sp dvs E t):=by
 intro pins s σ H Q I h;refine wpAny_Call_Name_kw (pK I hg hm ?_ hdb);refine callWith_K (h₀:=X.base) I.ok.mod.kin hk (dA (ha pos pins s σ H _ I h) λus s1 ⟨vs,H1,I1,r,q⟩=>⟨I1.kIn,?_⟩) he hpl;exact ux F hr hb hd hx I1 r q
structure Mk(K:Frag)(C f:Addr):Prop where
 makes:makesIn K C=true
 init:findIn K (.ref C) "__init__" = some (some (.ref f))
 fn:isFn K (.ref f)=true
 kp:keepIn K (.ref C)=true
theorem wg{pins:List (Addr×Obj)}{σ:St}{H:Hp}{s:Shared}{Q:VK}{us:List Value}{vs:List V}(M:Mk X.K C f)(F:dQ X.prog X.w X.K X.mg X.base CX k f fd ps sp)(hr:bN (k+1) X.A)(hb:gy X.K fd ps ds)(hd:Vals dvs ds)
  (hx:oQ CX X E) (I:aC X pins σ H s) (r:Vals vs us)
  (h:∀x dx,H x=none->H dx=none->dx≠x->sp (.ref x::(vs++dvs)) (c8 (c8 H dx (.own x)) x (.ins C dx [])) (λv H2=>v=.non/\Q (.ref x) H2) E):
  wpAny (model X.prog X.w) X.A (call (.ref C) us) (EP X pins σ Q) X.xe s:=by
 have hq:=h (s.heap.objs.size+1) s.heap.objs.size (I.hok.fresh (Nat.le_succ _)) (I.hok.fresh (le_refl _)) (ne_of_lt (lt_succ_self _));have I2:=aC.made (C:=C) I;have r2:Vals (V.ref (s.heap.objs.size+1)::(vs++dvs)) (Value.ref (s.heap.objs.size+1)::(us++ds)):=.cons rfl (r.append hd);have hl:(Value.ref (s.heap.objs.size+1)::us++ds).length=ps.length:=by
  have e:=r2.length;rw[F.len _ _ _ _ hq] at e;exact e.symm
 refine wpAny_call (Ef (f:=f) I.kIn M.makes M.init (beq_iff_eq.mp M.fn) (codeAny_mono (F.run _ X.stack _ _ ⟨Value.ref (s.heap.objs.size+1)::us,[]⟩ (Value.ref (s.heap.objs.size+1)::(us++ds)) _ _ E (hr.make C us [])
  (I2.env0.make C us []) (hb _ (Value.ref (s.heap.objs.size+1)::us) I2.kIn hl) r2 hq) λr s' hq'=>?_))
 cases r with
 |error e=>exact hx pins σ _ _ e s' I2 hq'
 |ok fl=>
  cases fl with
  |ret u=>
   obtain⟨v,H',I3,rv,ev,q3⟩:=I2.after hq';subst ev;exact⟨rv,⟨V.ref (s.heap.objs.size+1),H',I3,rfl,q3⟩⟩
  |next=>exact False.elim hq'
  |brk=>exact False.elim hq'
  |cont=>exact False.elim hq'
theorem FP(M:Mk X.K C f)(F:dQ X.prog X.w X.K X.mg X.base CX k f fd ps sp)(hr:bN (k+1) X.A)(hg:Gl X x)(hm:X.mg x=some (.ref C))(hb:gy X.K fd ps ds)(hd:Vals dvs ds)(hx:oQ CX X E)
  (ha:PA X (e::es) t) (hdb:(x == ("__debug__":Str))=false:=by decide) (he:starEach (e::es) X.env=(false,eval e X.env)::starEach es X.env:=by rfl) (hpl:(backTo pos (starEach es X.env)).any (·.1)=false:=by rfl):
  PE X (.Call (.Name x p) (e::es) [] pos) (GJ C sp dvs E t):=by
 intro pins s σ H Q I h;refine wpAny_Call_Name_kw (pK I hg hm ?_ hdb);refine callWith_K (h₀:=X.base) I.ok.mod.kin M.kp (dA (ha pos pins s σ H _ I h) λus s1 ⟨vs,H1,I1,r,q⟩=>⟨I1.kIn,?_⟩) he hpl;exact wg M F hr hb hd hx I1 r q
theorem DP(M:Mk X.K C f)(F:dQ X.prog X.w X.K X.mg X.base CX k f fd ps sp)(hr:bN (k+1) X.A)(hg:Gl X x)(hm:X.mg x=some (.ref C))(hb:gy X.K fd ps ds)(hd:Vals dvs ds)(hx:oQ CX X E)
  (hdb:(x == ("__debug__":Str))=false:=by decide):PE X (.Call (.Name x p) [] [] pos) (GJ C sp dvs E Bc):=by
 intro pins s σ H Q I h;refine wpAny_Call_Name_kw (pK I hg hm ?_ hdb);exact PySem.W.callWith_K0 I.kIn M.kp (wg (us:=[]) M F hr hb hd hx I .nil h)
end
def PK(X:Cx)(kws:List Keyword)(t:TA):Prop:=
 ∀(pos:Pos)(pins:List (Addr×Obj))(s:Shared)(σ:St)(H:Hp)(Q:List V->Hp->Prop),aC X pins σ H s->t σ H Q->wpAny (model X.prog X.w) X.A (evalAll ((backToKw pos (keywordEach kws X.env)).map (·.2))) (AP X pins σ Q) X.xe s
section
variable{X:Cx}{CX:B7}{k:Nat}{f C:Addr}{fd:FuncData}{ps ks:List Str}{sp:Sp}{E:XK}{x m:Str}{p pos apos kpos:Pos}{e o:Expr}{es:List Expr}{kws:List Keyword}{te ta:TE}{t tk:TA}{nm:Option Str}
theorem DJ:PK X [] Bc:=λ_ _ _ _ H Q I h=>wpAny_evalAll_nil ⟨[],H,I,.nil,h⟩
theorem Ar(ha:PE X e te)(hr:PK X kws t):PK X (⟨nm,e,kpos⟩::kws) (sO te t):=by
 intro pos pins s σ H Q I h;show wpAny _ _ (evalAll ((do let v ←eval e X.env;standAt pos;pure v)::(backToKw pos (keywordEach kws X.env)).map (·.2))) _ _ s
 refine wpAny_evalAll_cons (wpAny_bind (dA (ha pins s σ H _ I h) λu s1 ⟨x,H1,I1,r1,q1⟩=>wpAny_bind (wpAny_standAt (wpAny_pure ?_))));exact dA (hr pos pins s1 σ H1 _ I1 q1) λus s2 ⟨xs,H2,I2,r2,q2⟩=>⟨x::xs,H2,I2,.cons r1 r2,q2⟩
variable{g:List Value->List Value->List Value}{gV:List V->List V->List V}
end
structure aq(N P:List Str)(sc:Scope):Prop where
 kind:sc.kind=.function
 co:sc.isCoroutine=false
 gen:sc.isGenerator=false
 nd:N.Nodup
 pre:N.take P.length=P
 par:∀x∈P,sc.names.lookup x=some .local\/sc.names.lookup x=some .cell
 nofree:∀y∈sc.names,y.2≠.free
theorem tZ{kindOf:Str->Option NameKind}{x:Str}:∀{binds:List (Str×Value)}{m:Str->Option Value},(∀v,(x,v)∉binds)->bindL kindOf binds m x=m x
 |[],_,_=>rfl
 | (n,v)::r,m,h=>by
  unfold bindL;rw[tZ λw hw=>h w (mem_cons_of_mem _ hw)];split
  ·have:x≠n:=by rintro rfl;exact h v mem_cons_self
   simp[this]
  ·rfl
theorem u3{kindOf:Str->Option NameKind}{x:Str}:∀{binds:List (Str×Value)}{m:Str->Option Value},(∀v,(x,v)∉binds)->bindC kindOf binds m x=m x
 |[],_,_=>rfl
 | (n,v)::r,m,h=>by
  unfold bindC;rw[u3 λw hw=>h w (mem_cons_of_mem _ hw)];split
  ·rfl
  ·have:x≠n:=by rintro rfl;exact h v mem_cons_self
   simp[this]
theorem u0{kindOf:Str->Option NameKind}{x:Str}{v:Value}:∀{P:List Str}{vs:List Value}{i:Nat}{m:Str->Option Value},P.Nodup->P[i]?=some x->vs[i]?=some v->kindOf x=some .local->
  bindL kindOf (P.zip vs) m x=some v
 |[],_,_,_,_,h,_,_=>by simp at h
 |_::_,[],_,_,_,_,h,_=>by simp at h
 |p::P,w::vs,0,m,nd,h1,h2,hk=>by
  simp at h1 h2;subst h1;subst h2;show bindL kindOf ((p,w)::P.zip vs) m p=_;unfold bindL;rw[tZ λv hv=>(nodup_cons.mp nd).1 (List.of_mem_zip hv).1,if_pos hk];simp
 |p::P,w::vs,i+1,m,nd,h1,h2,hk=>by
  show bindL kindOf ((p,w)::P.zip vs) m x=_;unfold bindL;exact u0 (i:=i) (nodup_cons.mp nd).2 (by simpa using h1) (by simpa using h2) hk
theorem u4{kindOf:Str->Option NameKind}{x:Str}{v:Value}:∀{P:List Str}{vs:List Value}{i:Nat}{m:Str->Option Value},P.Nodup->P[i]?=some x->vs[i]?=some v->kindOf x≠some .local->
  bindC kindOf (P.zip vs) m x=some v
 |[],_,_,_,_,h,_,_=>by simp at h
 |_::_,[],_,_,_,_,h,_=>by simp at h
 |p::P,w::vs,0,m,nd,h1,h2,hk=>by
  simp at h1 h2;subst h1;subst h2;show bindC kindOf ((p,w)::P.zip vs) m p=_;unfold bindC;rw[u3 λv hv=>(nodup_cons.mp nd).1 (List.of_mem_zip hv).1,if_neg hk];simp
 |p::P,w::vs,i+1,m,nd,h1,h2,hk=>by
  show bindC kindOf ((p,w)::P.zip vs) m x=_;unfold bindC;exact u4 (i:=i) (nodup_cons.mp nd).2 (by simpa using h1) (by simpa using h2) hk
def start(N:List Str)(vs:List V):St:=vs.map some++replicate (N.length - vs.length) none
def lP(CX:B7)(P:Program)(w:World)(K:Frag)(mg:Str->Option Value)(base:Heap)(N:List Str)(qual:Str)(scope:Scope)(f:Addr)(cd:Value)(A:Around)(outer:List Env)(s:Shared)(H:Hp)(E:XK):Cx where
 prog:=P
 w:=w
 K:=K
 mg:=mg
 base:=base
 A:=A.deeper (envOfC qual scope s.heap.objs.size f cd)
 N:=N
 s₀:=s
 H₀:=H
 env:=envOfC qual scope s.heap.objs.size f cd
 outer:=outer
 stack:=envOfC qual scope s.heap.objs.size f cd::outer
 ex:=[]
 calm:=true
 fn:=λ_=>true
 pn:=[]
 xe:=λe s'=>wpAny (model P w) (A.deeper (envOfC qual scope s.heap.objs.size f cd)) (leaving (envOfC qual scope s.heap.objs.size f cd) e) (λ_ s''=>CX outer H s E e s'') (λe' s''=>CX outer H s E e' s'') s'
theorem o7{sc:Scope}{n:Nat}{x:Str}(h:sc.names.lookup x=some .cell):∃c,(cellsFrom n sc.names []).lookup x=some c:=by
 have q:=PySem.W.cellsFrom_some sc.names n [] (.inl h);exact Option.isSome_iff_exists.mp q
theorem CF{CX:B7}{P:Program}{w:World}{K:Frag}{mg:Str->Option Value}{base:Heap}{N ps:List Str}{qual:Str}{scope:Scope}{f:Addr}{cd:Value}{A:Around}{outer:List Env}{s s1:Shared}{H:Hp}{E:XK}{us:List Value}{vs:List V}
  (S:aq N ps scope) (hd:A.handled=none) (e0:lW P w K mg base A outer s H) (hl:vs.length=ps.length) (r:Vals vs us)
  (x:InCallC s s.heap.objs.size (bindL (envOfC qual scope s.heap.objs.size f cd).kindOf (ps.zip us) λ_=>none) (cellsFrom (s.heap.objs.size+1) scope.names []) (bindC (envOfC qual scope s.heap.objs.size f cd).kindOf (ps.zip us) λ_=>none) s1):
  aC (lP CX P w K mg base N qual scope f cd A outer s H E) [] (start N vs) H s1:=by
 have hpl:ps.length<=N.length:=by have:=congrArg List.length S.pre;rw[length_take] at this;omega
 obtain⟨h1,tk,rfl,hk⟩:=x.done;have noA:∀b:Addr,b∉(lP CX P w K mg base N qual scope f cd A outer s H E).ex:=λb z=>absurd (show b∈([]:List Addr) from z) (by simp)
 refine⟨⟨e0.mod,S.kind,rfl,rfl,le_refl _,λy z c h1 h2=>?_,λy hy=>?_,λy c _ h=>?_,λ_=>hd,Around.frames_deeper e0.frames,.inr ⟨rfl,rfl⟩,λb z=>absurd z (noA b),e0.bs,e0.bsz,λb _ _=>noA b,λb z=>absurd z (noA b),e0.funs,e0.frf⟩,
  rfl,e0.bare,Un.kept hk,⟨_,x.toInCall.ns,λi y v h1 h2 h3=>?_⟩,λy c h=>⟨_,x.cell y c h⟩,e0.hok.fresh (le_refl _),λy c h=>?_,λp hp=>absurd (show p∈([]:List (Addr×Obj)) from hp) (by simp),e0.hok.kept hk,?_⟩
 ·exact name_of_addr x.apart (PySem.mem_of_lookup h1) (PySem.mem_of_lookup h2)
 ·have hy:scope.names.lookup y=some .cell\/scope.names.lookup y=some .free:=hy;rcases hy with hy|hy
  ·exact o7 hy
  ·exact absurd rfl (S.nofree _ (PySem.mem_of_lookup hy))
 ·exact le_of_lt (x.above y c (PySem.mem_of_lookup h))
 ·have hi:i<vs.length:=by
   unfold start at h2;by_cases hi:i<vs.length
   ·exact hi
   ·rw[getElem?_append_right (by simpa using hi)] at h2
    rw[getElem?_replicate] at h2;split at h2 <;> cases h2
  have ha:vs[i]?=some v:=by
   unfold start at h2;rw[getElem?_append_left (by simpa using hi),getElem?_map] at h2
   cases e:vs[i]? with
   |none=>rw[e] at h2;cases h2
   |some a=>rw[e] at h2;cases h2;rfl
  obtain⟨u,hu,rv⟩:=r.get ha;have hp:ps[i]?=some y:=by
   rw[←S.pre,List.getElem?_take_of_lt (by omega)];exact h1
  have ndP:ps.Nodup:=by rw[←S.pre];exact S.nd.sublist (List.take_sublist _ _)
  refine⟨u,rv,?_⟩;rcases S.par y (mem_of_getElem? hp) with k|k
  ·exact .inl ⟨k,u0 ndP hp hu k⟩
  ·obtain⟨c,e⟩:=o7 (n:=s.heap.objs.size+1) k;refine .inr ⟨.inl k,c,e,?_⟩;have q:=x.cell y c e;rw[u4 ndP hp hu (by show scope.names.lookup y≠_;rw[k];decide)] at q
   exact q
 ·exact e0.hok.fresh (le_of_lt (x.above y c (PySem.mem_of_lookup h)))
 ·unfold start;show _=N.length;rw[length_append,length_map,length_replicate];omega
theorem Hb{CX:B7}{P:Program}{w:World}{K:Frag}{mg:Str->Option Value}{base:Heap}{k:Nat}{f:Addr}{name qual:Str}{params:Arguments}{body:List Stmt}{scope:Scope}{dV kV doc pm cdv ct oc:Value}{an od:Option Addr}
  {osl:Array (Option Value)} {N ps:List Str} {sp:Sp} (lk:K.lookup f=some ⟨oc,od,.func (fnOf name qual params body scope dV kV doc pm an cdv ct),osl⟩) (hcd:codeIn K cdv qual=true) (S:aq N ps scope)
  (len:∀vs H Q E,sp vs H Q E->vs.length=ps.length)
  (hbody:∀(A:Around)(outer:List Env)(s:Shared)(H:Hp)(vs:List V)(Q:VK)(E:XK),bN k (A.deeper (envOfC qual scope s.heap.objs.size f cdv))->sp vs H Q E->
   ∃t,pQ (lP CX P w K mg base N qual scope f cdv A outer s H E) body t/\t {nx:=λ_ H'=>Q .non H',rt:=Q} (start N vs) H):
  dQ P w K mg base CX (k+1) f (fnOf name qual params body scope dV kV doc pm an cdv ct) ps sp:=by
 refine⟨len,λA outer s H args us vs Q E hr e0 hb r hsp=>?_⟩;have hl:=len _ _ _ _ hsp;have KX:K.In s.heap:=e0.mod.kin.keeps λb o e=>(e0.bs b o e).1;have lim:s.heap.NoLimit:=e0.mod.nolimit.keeps λb o e=>(e0.bs b o e).1;have hkind:∀y∈ps.zip us,scope.names.lookup y.1=some .local\/(scope.names.lookup y.1=some .cell/\((cellsFrom (s.heap.objs.size+1) scope.names []).lookup y.1).isSome=true):=λ⟨n,v⟩ hy=>by
  rcases S.par n (List.of_mem_zip hy).1 with q|q
  ·exact .inl q
  ·exact .inr ⟨q,PySem.W.cellsFrom_some _ _ _ (.inl q)⟩
 refine codeAny_call_function hr.depth (KX _ _ lk) rfl S.co S.gen rfl (PySem.W.codeRec_of KX hcd) (hb _ _ _ _ ?_);refine wpAny_newFunctionEnv_cells S.kind hkind λenv he s1 x=>?_;subst he;refine⟨lim.keeps x.toInCall.keep,codeAny_func ?_⟩;obtain⟨t,ht,hq⟩:=hbody A outer s H vs Q E (hr.deeper _) hsp;have I:aC (lP CX P w K mg base N qual scope f cdv A outer s H E) [] (start N vs) H s1:=CF S hr.hd e0 hl r x;refine wpAny_mono (ht [] s1 (start N vs) H _ I hq) (λfl s' hs=>?_) λe s' hs=>hs;have fin:∀{σ':St}{H':Hp}{v:V}{u:Value},aC (lP CX P w K mg base N qual scope f cdv A outer s H E) [] σ' H' s'->RelV v u->Q v H'->CE outer P w H s Q u s':=
  λ{σ' H' v u} J rv q=>⟨v,H',J.os,J.bare,J.base,J.hok,rv,q⟩
 cases fl with
 |ret u=>
  obtain⟨v,σ',H',J,rv,q⟩:=hs;exact fin J rv q
 |next=>
  obtain⟨σ',H',J,q⟩:=hs;exact fin (v:=V.non) (u:=Value.none) J rfl q
 |brk=>
  obtain⟨_,_,_,q⟩:=hs;exact False.elim q
 |cont=>
  obtain⟨_,_,_,q⟩:=hs;exact False.elim q
section
variable{X:Cx}{x:Str}{p pos:Pos}{e:Expr}{es:List Expr}{t:TA}{id T:String}{r:List V->Hp->VK->Prop}
def Ll(r:List V->Hp->VK->Prop)(t:TA):TE:=λσ H Q=>t σ H λvs H1=>r vs H1 Q
theorem lu(hc:dD X (.builtin id) r)(hg:Gl X x)(hm:X.mg x=none)(hv:bootBuiltins x=some (.builtin id))(ha:PA X (e::es) t)(hn:x ≠ "__name__" := by decide)(hdb:(x == ("__debug__":Str))=false:=by decide)
  (he:starEach (e::es) X.env=(false,eval e X.env)::starEach es X.env:=by rfl) (hpl:(backTo pos (starEach es X.env)).any (·.1)=false:=by rfl):PE X (.Call (.Name x p) (e::es) [] pos) (Ll r t):=by
 intro pins s σ H Q I h;refine wpAny_Call_Name_kw (lD I hg hm hv ?_ hn hdb);exact PyProof.Rows.callWith_builtin1 (dA (ha pos pins s σ H _ I h) λus s1 ⟨vs,H1,I1,r1,q1⟩=>hc pins s1 σ H1 vs us Q I1 r1 q1) he hpl
theorem gA(hc:dD X (.type T) r)(hg:Gl X x)(hm:X.mg x=none)(hv:bootBuiltins x=some (.type T))(ha:PA X (e::es) t)(hn:x ≠ "__name__" := by decide)(hdb:(x == ("__debug__":Str))=false:=by decide)
  (he:starEach (e::es) X.env=(false,eval e X.env)::starEach es X.env:=by rfl) (hpl:(backTo pos (starEach es X.env)).any (·.1)=false:=by rfl):PE X (.Call (.Name x p) (e::es) [] pos) (Ll r t):=by
 intro pins s σ H Q I h;refine wpAny_Call_Name_kw (lD I hg hm hv ?_ hn hdb);exact PyProof.Rows.callWith_type1 (dA (ha pos pins s σ H _ I h) λus s1 ⟨vs,H1,I1,r1,q1⟩=>hc pins s1 σ H1 vs us Q I1 r1 q1) he hpl
end
end L2
namespace HT
open PySem PyProof.Rows
section
open PySem.SeqAt
open PySem.AutoSeq1 (wpAny_loadPart')
open PySem.MeetsSeq PySem.MeetsSeq2 PySem.MeetsSeq3
end
section
variable{prog:Program}{w:World}{A:Around}{E:Value->Shared->Prop}{s:Shared}
theorem cat_tup{t b:Addr}{vs ws:List Value}{Q:Value->Shared->Prop}(ht:IsTup s.heap t vs.toArray)(hb:IsTup s.heap b ws.toArray)(hv:vs≠[])
  (h1:ws=[]->Q (.ref t) s) (h2:ws≠[]->Q (.ref s.heap.objs.size) {s with heap:=s.heap.push {cls:=.type "tuple",data:=.seq (vs++ws).toArray}})
  (hsz:vs.length+ws.length<=sizeLine):wpAny (model prog w) A (binaryOp .Add (.ref t) (.ref b)) Q E s:=by
 obtain⟨⟨cls,dd,data,sl⟩,ho,hc,n,hd⟩:=id ht;obtain⟨⟨cls2,dd2,data2,sl2⟩,ho2,hc2,n2,hd2⟩:=id hb;simp only at hc hd hc2 hd2;subst hc hd hc2 hd2;have e:vs.toArray++ws.toArray=(vs++ws).toArray:=by simp
 by_cases hw:ws=[]
 ·exact concat_meets ⟨_,ho,rfl⟩ ⟨_,ho2,rfl⟩ noFill_tuple_add seq_tuple_add PySem.F.slot_tuple_add PySem.F.entry_tuple_add (PySem.F.args_tuple_add_2 _ _)
   (tuple_addW1 t b vs.toArray ws.toArray n n2 dd dd2 sl sl2 (by simpa using hv) (by simp[hw])) ⟨ho,ho2,h1 hw⟩
 ·refine concat_meets ⟨_,ho,rfl⟩ ⟨_,ho2,rfl⟩ noFill_tuple_add seq_tuple_add PySem.F.slot_tuple_add PySem.F.entry_tuple_add (PySem.F.args_tuple_add_2 _ _)
   (tuple_addW2 t b vs.toArray ws.toArray n n2 dd dd2 sl sl2 (by simpa using hv) (by simpa using hw) (by rw[size_toArray,size_toArray];exact hsz)) ⟨ho,ho2,?_⟩
  rw[e];exact h2 hw
noncomputable def sIx(n d:Nat):Option Int->Nat
 |none=>d
 |some v=>if v<0 then(v+(n:Int)).toNat else min v.toNat n
theorem Ht(n d:Nat)(hd:d<=n)(o:Option Int):sIx n d o<=n:=by
 cases o with
 |none=>exact hd
 |some v=>
  show(if v<0 then(v+(n:Int)).toNat else min v.toNat n)<=n;by_cases hv:v<0
  ·rw[if_pos hv];omega
  ·rw[if_neg hv];exact Nat.min_le_right _ _
theorem AW(v:Int)(n d:Nat):(if v<0 then max (v+(n:Int)) 0 else min v (n:Int))=((sIx n d (some v):Nat):Int):=by
 show(if v<0 then max (v+(n:Int)) 0 else min v (n:Int))=(((if v<0 then(v+(n:Int)).toNat else min v.toNat n):Nat):Int);by_cases hv:v<0
 ·simp only[if_pos hv];omega
 ·simp only[if_neg hv];omega
theorem A7(lo hi:Option Int)(n:Nat):Builtin.Slice.sliceAdjust lo hi 1 (n:Int)=(((sIx n 0 lo:Nat):Int),((sIx n n hi:Nat):Int)):=by
 have h1:¬((1:Int)<0):=by omega
 unfold Builtin.Slice.sliceAdjust;simp only[h1,if_false];refine Prod.ext ?_ ?_
 ·cases lo with
  |none=>rfl
  |some v=>exact AW v n 0
 ·cases hi with
  |none=>rfl
  |some v=>exact AW v n n
theorem yO(i j:Nat):Builtin.Slice.slicePlaces (i:Int) (j:Int) 1=j - i:=by
 unfold Builtin.Slice.slicePlaces;have h1:(1:Int) > 0:=by omega
 simp only[h1,if_true,Int.ediv_one];split <;> omega
theorem pV{v:Value}{o:Option Int}{Q:Option Int->Shared->Prop}(p:IsPart v o)(h:Q o s):wpAny (model prog w) A (Builtin.Slice.slicePartIndex v) Q E s:=by
 cases p with
 |none=>exact slicePart_none h
 |int i t=>exact slicePart_int h
theorem ox{sl:Addr}{vl vu:Value}{lo hi:Option Int}{n:Nat}{Q:Int×Int×Nat->Shared->Prop}(hs:s.heap.IsSliceOf sl vl vu .none)(pl:IsPart vl lo)(pu:IsPart vu hi)
  (h:Q (((sIx n 0 lo:Nat):Int),1,sIx n n hi - sIx n 0 lo) s):wpAny (model prog w) A (Builtin.Slice.sliceApplied (.ref sl) (pure (n:Int))) Q E s:=by
 obtain⟨os,hos,hcs,hds⟩:=id hs;unfold Builtin.Slice.sliceApplied Builtin.Slice.sliceFields;refine wpAny_bind (wpAny_bind (wpAny_field hos hds (x:=vl) rfl (wpAny_bind (wpAny_field hos hds (x:=vu) rfl (wpAny_bind (wpAny_field hos hds (x:=.none) rfl (wpAny_pure ?_)))))));refine wpAny_bind (slicePart_none ?_);show wpAny _ _ (if((1:Int) == 0)=true then _ else _) _ _ s;rw[if_neg (by decide)]
 refine wpAny_bind (pV pl (wpAny_bind (pV pu (wpAny_bind (wpAny_pure ?_)))));show wpAny _ _ (match Builtin.Slice.sliceAdjust lo hi 1 (n:Int) with|(lo,hi)=>pure (lo,(1:Int),Builtin.Slice.slicePlaces lo hi 1)) _ _ s
 rw[A7 lo hi n];show wpAny _ _ (pure (((sIx n 0 lo:Nat):Int),(1:Int),Builtin.Slice.slicePlaces ((sIx n 0 lo:Nat):Int) ((sIx n n hi:Nat):Int) 1)) _ _ s;rw[yO];exact wpAny_pure h
theorem DL(xs:Array Value)(i k:Nat):((List.range k).filterMap λ(m:Nat)=>xs[((i:Int)+(m:Int) * 1).toNat]?).toArray=((xs.toList.drop i).take k).toArray:=by
 have e:(λ(m:Nat)=>xs[((i:Int)+(m:Int) * 1).toNat]?)=λm=>xs[i+m]?:=by
  funext m;have:((i:Int)+(m:Int) * 1).toNat=i+m:=by omega
  rw[this]
 rw[e];have:=pick_run xs i k;rw[List.filterMap_map] at this;have e2:((λx=>xs[x]?) ∘ λx=>i+x)=λm=>xs[i+m]?:=rfl;rw[e2] at this;rw[this]
theorem getItem_tuple_cut{t sl:Addr}{items:Array Value}{vl vu:Value}{lo hi:Option Int}{Q:Value->Shared->Prop}(ht:IsTup s.heap t items)(hs:s.heap.IsSliceOf sl vl vu .none)(pl:IsPart vl lo)(pu:IsPart vu hi)
  (hw:¬(sIx items.size 0 lo=0/\sIx items.size items.size hi=items.size))
  (h:Q (.ref s.heap.objs.size) {s with heap:=s.heap.push {cls:=.type "tuple",data:=.seq ((items.toList.drop (sIx items.size 0 lo)).take (sIx items.size items.size hi - sIx items.size 0 lo)).toArray}})
  (hsz:items.size<=sizeLine):wpAny (model prog w) A (getItem (.ref t) (.ref sl)) Q E s:=by
 have htake:sizeOk (.seq ((items.toList.drop (sIx items.size 0 lo)).take (sIx items.size items.size hi - sIx items.size 0 lo)).toArray):=by
  show((items.toList.drop (sIx items.size 0 lo)).take (sIx items.size items.size hi - sIx items.size 0 lo)).toArray.size<=sizeLine;rw[size_toArray,length_take,length_drop,length_toList];omega
 have hj:sIx items.size items.size hi<=items.size:=Ht _ _ (le_refl _) hi;obtain⟨os,hos,hcs,hds⟩:=id hs;have hTs:s.TypeIs (.ref sl) "slice" := ⟨os,hos,hcs⟩;unfold getItem
 try with_reducible refine wpAny_holding ?_
 first|refine wpAny_bind (wpAny_pure ?_)|skip
 refine wpAny_bind (wpAny_sequenceKey ht.typeIs (by decide) ?_)
 refine wpAny_bind (wpAny_callSpecial?_slot (name:=Str.ofString "__getitem__") ht.typeIs PyProof.Rows.slot_tuple_getitem
  (wpAny_call_entry PyProof.Rows.slot_tuple_getitem ht.typeIs entry_tuple_getitem ?_ (args_tuple_getitem _ _)))
 show wpAny _ _ (Builtin.Tuple.tupleItemsOf (.ref t) >>= _) _ _ s;refine wpAny_bind (tupleItemsOf_ ht ?_);refine wpAny_bind (wpAny_typeOf hTs ?_);rw[if_pos (by decide)]
 refine wpAny_bind (ox hs pl pu ?_);have hno:¬((((sIx items.size 0 lo:Nat):Int) == 0 && (1:Int) == 1 && (sIx items.size items.size hi - sIx items.size 0 lo) == items.size)=true):=by
  intro q;rw[Bool.and_eq_true,Bool.and_eq_true] at q;have q1:((sIx items.size 0 lo:Nat):Int)=0:=eq_of_beq q.1.1;have q2:sIx items.size items.size hi - sIx items.size 0 lo=items.size:=eq_of_beq q.2;exact hw ⟨by omega,by omega⟩
 show wpAny _ _ (if(((sIx items.size 0 lo:Nat):Int) == 0 && (1:Int) == 1 && (sIx items.size items.size hi - sIx items.size 0 lo) == items.size)=true then _ else _) _ _ s;rw[if_neg hno,DL]
 first
  |exact wpAny_bind (m:=Builtin.Tuple.tupleExact _) (wpAny_newObj_type (wpAny_pure ⟨_,rfl,wpAny_pure h⟩) htake)
  |exact wpAny_bind (m:=Builtin.Tuple.tupleExact _) (wpAny_newObj_type (wpAny_bind (wpAny_pure (wpAny_pure ⟨_,rfl,wpAny_pure h⟩))) htake)
  |exact wpAny_bind (wpAny_bind (m:=Builtin.Tuple.tupleExact _) (wpAny_newObj_type (wpAny_pure (wpAny_pure ⟨_,rfl,wpAny_pure h⟩)) htake))
  |exact wpAny_bind (wpAny_bind (m:=Builtin.Tuple.tupleExact _) (wpAny_newObj_type (wpAny_pure ⟨_,rfl,wpAny_pure h⟩) htake))
end
end HT
namespace L2
open PySem PySem.Spec PyProof.Rows
abbrev TO:=St->Hp->(Option Int->Hp->Prop)->Prop
def PO(X:Cx)(e:Option Expr)(t:TO):Prop:=
 ∀(pins:List (Addr×Obj))(s:Shared)(σ:St)(H:Hp)(Q:Option Int->Hp->Prop),aC X pins σ H s->t σ H Q->
  wpAny (model X.prog X.w) X.A (evalPart e X.env) (λu s'=>∃o H',aC X pins σ H' s'/\IsPart u o/\Q o H') X.xe s
def Ah:TO:=λ_ H Q=>Q none H
def GI(t:TE):TO:=λσ H Q=>t σ H λx H1=>∃i,x=.int i/\Q (some i) H1
theorem zH{ns:List Int}:∀{us:List Value},Vals (ns.map V.int) us->IntsAre us ns:=by
 induction ns with
 |nil=>intro us r;rw[map_nil] at r;cases r;exact .nil
 |cons n ns ih=>
  intro us r;rw[map_cons] at r;cases r with
  |cons r1 r2=>
   obtain⟨t,e⟩:=r1;subst e;exact .cons n t (ih r2)
section
variable{X:Cx}{e:Expr}{te:TE}{lo hi:Option Expr}{tl th:TO}{pos p2:Pos}
theorem FK:PO X none Ah:=by
 intro pins s σ H Q I h;rw[evalPart_none];exact wpAny_pure ⟨none,H,I,.none,h⟩
theorem FJ(h:PE X e te):PO X (some e) (GI te):=by
 intro pins s σ H Q I hw;rw[evalPart_some];refine dA (h pins s σ H _ I hw) λu s1 ⟨x,H1,I1,r1,q1⟩=>?_;obtain⟨i,rfl,q⟩:=q1;obtain⟨t,rfl⟩:=r1;exact⟨some i,H1,I1,.int i t,q⟩
def Hh(X:Cx)(r:V->Option Int->Option Int->Hp->VK->Prop):Prop:=
 ∀(pins:List (Addr×Obj))(s:Shared)(σ:St)(H:Hp)(x:V)(v vl vu:Value)(lo hi:Option Int)(sl:Addr)(Q:VK),aC X pins σ H s->RelV x v->s.heap.IsSliceOf sl vl vu .none->IsPart vl lo->IsPart vu hi->r x lo hi H Q->
  ∃T id,typeLookup (.type T) "__getitem__" = pure (some (.builtin id))/\s.TypeIs v T/\wpAny (model X.prog X.w) X.A (getItem v (.ref sl)) (EP X pins σ Q) X.xe s
theorem Hh.or{r r':V->Option Int->Option Int->Hp->VK->Prop}(h:Hh X r)(h':Hh X r'):Hh X (λx lo hi H Q=>r x lo hi H Q\/r' x lo hi H Q):=by
 intro pins s σ H x v vl vu lo hi sl Q I rx hs pl pu q;rcases q with q|q
 ·exact h pins s σ H x v vl vu lo hi sl Q I rx hs pl pu q
 ·exact h' pins s σ H x v vl vu lo hi sl Q I rx hs pl pu q
def Lu(r:V->Option Int->Option Int->Hp->VK->Prop)(te:TE)(tl th:TO):TE:=λσ H Q=>te σ H λx H1=>tl σ H1 λl H2=>th σ H2 λu H3=>r x l u H3 Q
theorem DN{r:V->Option Int->Option Int->Hp->VK->Prop}(hr:Hh X r)(he:PE X e te)(hl:PO X lo tl)(hu:PO X hi th):PE X (.Subscript e (.Slice lo hi none p2) pos) (Lu r te tl th):=by
 intro pins s σ H Q I h;refine Subscript_ (dA (he pins s σ H _ I h) λv s1 ⟨x,H1,I1,r1,q1⟩=>?_);refine wpAny_Slice (dA (hl pins s1 σ H1 _ I1 q1) λvl s2 ⟨l,H2,I2,pl,q2⟩=>dA (hu pins s2 σ H2 _ I2 q2) λvu s3 ⟨u,H3,I3,pu,q3⟩=>?_);rw[evalPart_none];refine wpAny_pure ?_;have I4:aC X pins σ H3 {s3 with heap:=s3.heap.push {cls:=.type "slice",data:=.fields #[vl,vu,.none]}}:=I3.kept (t':=s3.toks) λb ob q=>get?_push_of_some _ q;obtain⟨T,id,hT,ht,hg⟩:=hr pins {s3 with heap:=s3.heap.push {cls:=.type "slice",data:=.fields #[vl,vu,.none]}} σ H3 x v vl vu l u s3.heap.objs.size Q I4 r1 (Heap.IsSliceOf.new ..) pl pu q3;show wpAny (model X.prog X.w) X.A (subscriptTail e (.Slice lo hi none p2) v (.ref s3.heap.objs.size)) (EP X pins σ Q) X.xe {s3 with heap:=s3.heap.push {cls:=.type "slice",data:=.fields #[vl,vu,.none]}};exact tail_any (ops:=[.ref s3.heap.objs.size,v]) ht hT hg (by with_unfolding_all rfl)
def xR(xs:List V)(lo hi:Option Int):List V:=(xs.drop (HT.sIx xs.length 0 lo)).take (HT.sIx xs.length xs.length hi - HT.sIx xs.length 0 lo)
theorem p9(xs:List V)(lo hi:Option Int):(xR xs lo hi).length<=xs.length:=by
 unfold xR;rw[length_take,length_drop];omega
def KM(K:Frag):V->Option Int->Option Int->Hp->VK->Prop:=λx lo hi H Q=>∃a xs,x=.ref a/\nh K H a xs/\
 ¬(HT.sIx xs.length 0 lo=0/\HT.sIx xs.length xs.length hi=xs.length)/\∀p,H p=none->Q (.ref p) (c8 H p (.tup (xR xs lo hi)))
theorem Hn:Hh X (KM X.K):=by
 intro pins s σ H x v vl vu lo hi sl Q I rx hs pl pu h;obtain⟨a,xs,rfl,hx,hw,q⟩:=h;cases rx;obtain⟨its,r,ht,hz⟩:=I.tuple hx;have hlen:its.toArray.size=xs.length:=by rw[size_toArray];exact r.length.symm
 refine⟨"tuple",_,PyProof.Rows.slot_tuple_getitem.lookup,ht.typeIs,?_⟩;refine HT.getItem_tuple_cut ht hs pl pu (by rw[hlen];exact hw) ?_ (by rw[hlen];exact hz)
 rw[hlen];refine⟨.ref s.heap.objs.size,_,I.laid (t':=s.toks) (o:=.tup (xR xs lo hi)) (λb ob q=>get?_push_of_some _ q) (le_refl _) ?_,rfl,q _ (I.hok.fresh (le_refl _))⟩;exact⟨le_trans (p9 xs lo hi) hz,_,(r.drop (HT.sIx xs.length 0 lo)).take (HT.sIx xs.length xs.length hi - HT.sIx xs.length 0 lo),IsTup.new _ _⟩
def JG(K:Frag):R2:=λx y H Q=>∃a b xs ys,x=.ref a/\y=.ref b/\nh K H a xs/\nh K H b ys/\xs≠[]/\xs.length+ys.length<=sizeLine/\
 (ys=[]->Q (.ref a) H)/\(ys≠[]->∀p,H p=none->Q (.ref p) (c8 H p (.tup (xs++ys))))
theorem Vals.nil_iff{xs:List V}{us:List Value}(r:Vals xs us):us=[]↔xs=[]:=by
 cases r with
 |_=>simp
theorem G1:iU X (binaryOp .Add) (JG X.K):=by
 intro pins s σ H x y v u Q I rx ry h;obtain⟨a,b,xs,ys,rfl,rfl,ha,hb,hx,hz,q1,q2⟩:=h;cases rx;cases ry;obtain⟨its,r1,p1,_⟩:=I.tuple ha;obtain⟨its2,r2,p2,_⟩:=I.tuple hb;refine HT.cat_tup p1 p2 (λz=>hx (r1.nil_iff.mp z)) (λz=>⟨.ref a,H,I,rfl,q1 (r2.nil_iff.mp z)⟩) (λz=>?_) (by rw[←r1.length,←r2.length];exact hz)
 refine⟨.ref s.heap.objs.size,_,I.laid (t':=s.toks) (o:=.tup (xs++ys)) (λb ob q=>get?_push_of_some _ q) (le_refl _) ?_,rfl,q2 (λw=>z (r2.nil_iff.mpr w)) _ (I.hok.fresh (le_refl _))⟩;exact⟨by rw[length_append];exact hz,_,r1.append r2,IsTup.new _ _⟩
end
def K5(n:Nat)(i:Int):Option Nat:=if 0<=i then(if i<n then some i.toNat else none) else if -(n:Int)<=i then some (i+n).toNat else none
def Jb{α:Type}(xs:List α)(i:Int):Option α:=(K5 xs.length i).bind λj=>xs[j]?
theorem Gg{n:Nat}{i:Int}{j:Nat}(h:K5 n i=some j):seqIndex? i n=some j/\j<n/\-(n:Int)<=i/\i<n:=by
 unfold K5 at h;by_cases h0:0<=i
 ·rw[if_pos h0] at h;by_cases h1:i<n
  ·rw[if_pos h1] at h;have e:i.toNat=j:=Option.some.inj h;exact⟨by rw[seqIndex_of h0 h1,e],by omega,by omega,h1⟩
  ·rw[if_neg h1] at h;cases h
 ·rw[if_neg h0] at h;by_cases h1:-(n:Int)<=i
  ·rw[if_pos h1] at h;have e:(i+n).toNat=j:=Option.some.inj h;exact⟨by rw[seqIndex_neg (by omega) h1,e],by omega,h1,by omega⟩
  ·rw[if_neg h1] at h;cases h
theorem vO{α:Type}{xs:List α}{i:Int}{v:α}(h:Jb xs i=some v):∃j,seqIndex? i xs.length=some j/\xs[j]?=some v/\j<xs.length/\-(xs.length:Int)<=i/\i<xs.length:=by
 unfold Jb at h;cases e:K5 xs.length i with
 |none=>rw[e] at h;cases h
 |some j=>
  rw[e] at h;obtain⟨h1,h2,h3,h4⟩:=Gg e;exact⟨j,h1,h,h2,h3,h4⟩
def B3(b:Expr):Prop:=∀o i,subscripted b false o i=operate [o,i] (getItem o i)
def Fm(X:Cx)(r:R2):Prop:=
 ∀(value slice:Expr)(pins:List (Addr×Obj))(s:Shared)(σ:St)(H:Hp)(x y:V)(v u:Value)(Q:VK),aC X pins σ H s->RelV x v->RelV y u->r x y H Q->
  subscripted slice false v u=operate [v,u] (getItem v u)->wpAny (model X.prog X.w) X.A (subscriptTail value slice v u) (EP X pins σ Q) X.xe s
def Jo(X:Cx)(id:String)(r:V->List V->Hp->VK->Prop):Prop:=
 ∀(pins:List (Addr×Obj))(s:Shared)(σ:St)(H:Hp)(x:V)(xs:List V)(v:Value)(us:List Value)(Q:VK),aC X pins σ H s->RelV x v->Vals xs us->r x xs H Q->
  wpAny (model X.prog X.w) X.A (call (.builtin id) (v::us)) (EP X pins σ Q) X.xe s
section
variable{X:Cx}{a b:Expr}{ta tb:TE}{pos:Pos}
theorem Fm.or{r r':R2}(h:Fm X r)(h':Fm X r'):Fm X (λx y H Q=>r x y H Q\/r' x y H Q):=by
 intro value slice pins s σ H x y v u Q I rx ry q hs;rcases q with q|q
 ·exact h value slice pins s σ H x y v u Q I rx ry q hs
 ·exact h' value slice pins s σ H x y v u Q I rx ry q hs
theorem Jo.or{id:String}{r r':V->List V->Hp->VK->Prop}(h:Jo X id r)(h':Jo X id r'):Jo X id (λx xs H Q=>r x xs H Q\/r' x xs H Q):=by
 intro pins s σ H x xs v us Q I rx rs q;rcases q with q|q
 ·exact h pins s σ H x xs v us Q I rx rs q
 ·exact h' pins s σ H x xs v us Q I rx rs q
theorem JL{r:R2}(hr:Fm X r)(ha:PE X a ta)(hb:PE X b tb)(hs:B3 b):PE X (.Subscript a b pos) (Jr r ta tb):=by
 intro pins s σ H Q I h;exact Subscript_ (IZ ha hb I h λv u s2 x y H2 I2 rx ry q=>hr a b pins s2 σ H2 x y v u Q I2 rx ry q (hs _ _))
def KR(K:Frag):R2:=λx y H Q=>∃p xs i v,x=.ref p/\y=.int i/\kY K H p xs/\Jb xs i=some v/\Q v H
def KP(K:Frag):R2:=λx y H Q=>∃p xs i v,x=.ref p/\y=.int i/\nh K H p xs/\Jb xs i=some v/\Q v H
def KQ:R2:=λx y H Q=>∃z i c,x=.str z/\y=.int i/\z.length<=sizeLine/\Jb z.cps.toList i=some c/\Q (.str ⟨#[c]⟩) H
theorem Ge:Fm X (KR X.K):=by
 intro value slice pins s σ H x y v u Q I rx ry h hs;obtain⟨p,xs,i,z,rfl,rfl,hq,he,q⟩:=h;cases rx;obtain⟨t,rfl⟩:=ry;obtain⟨its,r,pl,hz⟩:=I.list hq;obtain⟨j,h1,h2,h3,h4,h5⟩:=vO he;obtain⟨w,ew,rw'⟩:=r.get h2;have hl:=r.length;have hn:=qQ;have fin:EP X pins σ Q w s:=⟨z,H,I,rw',q⟩;by_cases h0:0<=i
 ·have hj:i.toNat=j:=by
   rw[seqIndex_of h0 h5] at h1;exact Option.some.inj h1
  exact item_listR pl.isList h0 (by omega) (by rw[hj];simpa using ew) fin hs
 ·have hj:(i+(its.toArray.size:Int)).toNat=j:=by
   rw[seqIndex_neg (by omega) h4] at h1
   rw[size_toArray,←hl];exact Option.some.inj h1
  exact subscriptTail_builtinR (x:=w) pl.isList.typeIs slot_list_getitem.lookup
   (wpAny_getItem_list_neg (Q:=λr s'=>r=w/\EP X pins σ Q r s') pl.isList (by omega) (by rw[size_toArray] <;> omega) (by omega) (by rw[hj];simpa using ew) ⟨rfl,fin⟩) hs
theorem ix_tup:Fm X (KP X.K):=by
 intro value slice pins s σ H x y v u Q I rx ry h hs;obtain⟨p,xs,i,z,rfl,rfl,hq,he,q⟩:=h;cases rx;obtain⟨t,rfl⟩:=ry;obtain⟨its,r,pl,hz⟩:=I.tuple hq;obtain⟨j,h1,h2,h3,h4,h5⟩:=vO he;obtain⟨w,ew,rw'⟩:=r.get h2;have hl:=r.length;have hn:=qQ;have fin:EP X pins σ Q w s:=⟨z,H,I,rw',q⟩;exact subscriptTail_builtinR (x:=w) pl.typeIs slot_tuple_getitem.lookup
  (getItem_tuple (j:=j) (Q:=λr s'=>r=w/\EP X pins σ Q r s') pl (by omega) (by omega) (by rw[size_toArray,←hl];exact h1) (by simpa using ew) ⟨rfl,fin⟩) hs
theorem IA:Fm X KQ:=by
 intro value slice pins s σ H x y v u Q I rx ry h hs;obtain⟨z,i,c,rfl,rfl,hz,he,q⟩:=h;obtain⟨t,rfl⟩:=rx;obtain⟨t',rfl⟩:=ry;obtain⟨j,h1,h2,h3,h4,h5⟩:=vO he;have hl:z.cps.toList.length=z.length:=by simp[Str.length]
 rw[hl] at h1 h4 h5;have hn:=qQ;exact tail_any (typeIs_str s z t) slot_str_getitem.lookup (getItem_str (c:=c) (by
  have e1:decide (i < -(2 ^ 63:Int))=false:=decide_eq_false (by omega)
  have e2:decide (i ≥ 2 ^ 63)=false:=decide_eq_false (by omega)
  rw[e1,e2,Bool.or_false]) (by rw[h1];simpa using h2) ⟨.str ⟨#[c]⟩,H,I.tok _,⟨_,rfl⟩,q⟩) hs
theorem aC.lst{pins:List (Addr×Obj)}{σ:St}{H:Hp}{s:Shared}{p:Addr}{xs:List V}(I:aC X pins σ H s)(h:H p=some (.lst xs)):
  ∃(its:List Value)(n:Nat),Vals xs its/\s.heap.get? p=some {cls:=.type "list",data:=.seq its.toArray n}/\xs.length<=sizeLine:=by
 obtain⟨z,its,n,r,e⟩:=I.hok p _ h;exact⟨its,n,r,e,z⟩
theorem uk(lo hi:Option Int)(n:Nat):(sliceBounds lo hi none n).1=((HT.sIx n 0 lo:Nat):Int)/\(sliceBounds lo hi none n).2.1=((HT.sIx n n hi:Nat):Int)/\(sliceBounds lo hi none n).2.2=1:=by
 refine⟨?_,?_,rfl⟩
 ·cases lo with
  |none=>simp[sliceBounds,HT.sIx]
  |some i=>
   simp only[sliceBounds,HT.sIx,Option.getD_none,show(1:Int) > 0 by decide,if_true]
   by_cases h:i<0
   ·simp only[h,if_true] <;> omega
   ·simp only[h,if_false] <;> omega
 ·cases hi with
  |none=>simp[sliceBounds,HT.sIx]
  |some i=>
   simp only[sliceBounds,HT.sIx,Option.getD_none,show(1:Int) > 0 by decide,if_true]
   by_cases h:i<0
   ·simp only[h,if_true] <;> omega
   ·simp only[h,if_false] <;> omega
theorem rK(its:List Value)(lo hi:Option Int):slicePick its.toArray lo hi none=((its.drop (HT.sIx its.length 0 lo)).take (HT.sIx its.length its.length hi - HT.sIx its.length 0 lo)).toArray:=by
 obtain⟨h1,h2,h3⟩:=uk lo hi its.toArray.size;unfold slicePick;rw[h1,h2,h3];simp only[sliceRange_one,pick_run,size_toArray] <;> rfl
def KN(K:Frag):V->Option Int->Option Int->Hp->VK->Prop:=λx lo hi H Q=>∃a xs,x=.ref a/\kY K H a xs/\∀p,H p=none->Q (.ref p) (c8 H p (.lst (xR xs lo hi)))
theorem Fv:Hh X (KN X.K):=by
 intro pins s σ H x v vl vu lo hi sl Q I rx hs pl pu h;obtain⟨a,xs,rfl,hx,q⟩:=h;cases rx;obtain⟨its,r,ht,hz⟩:=I.list hx;have hlen:=r.length;refine⟨"list",_,slot_list_getitem.lookup,ht.isList.typeIs,?_⟩;refine wpAny_getItem_list_slice ht.isList hs pl pu .none (by simp) ?_ (by rw[size_toArray] <;> omega)
 rw[rK,←hlen];refine⟨.ref s.heap.objs.size,_,I.laid (t':=s.toks) (o:=.lst (xR xs lo hi)) (λb ob q=>get?_push_of_some _ q) (le_refl _) ?_,rfl,q _ (I.hok.fresh (le_refl _))⟩;exact⟨le_trans (p9 xs lo hi) hz,_,0,(r.drop (HT.sIx xs.length 0 lo)).take (HT.sIx xs.length xs.length hi - HT.sIx xs.length 0 lo),get?_push_size _ rfl⟩
theorem oe:dD X (.builtin "len") (λxs H Q=>∃p ys,xs=[.ref p]/\(kY X.K H p ys\/nh X.K H p ys)/\Q (.int ys.length) H):=by
 intro pins s σ H xs us Q I r h;obtain⟨p,ys,rfl,hq,q⟩:=h;obtain⟨u,rfl,rx⟩:=j0 r;cases rx;have hn:=qQ;rcases hq with hq|hq
 ·obtain⟨its,r',pl,hz⟩:=I.list hq;have hlen:=r'.length;exact Calls.call_len_list pl.isList (by simp only[size_toArray] <;> omega) ⟨.int ys.length,H,I.tok _,⟨s.toks+1,by rw[size_toArray,hlen]⟩,q⟩
 ·obtain⟨its,r',pl,hz⟩:=I.tuple hq;have hlen:=r'.length;exact len_tuple pl (by simp only[size_toArray] <;> omega) ⟨.int ys.length,H,I.tok _,⟨s.toks+1,by rw[size_toArray,hlen]⟩,q⟩
theorem vI:dD X (.builtin "len") (λxs H Q=>∃z,xs=[.str z]/\z.length<=sizeLine/\Q (.int z.length) H):=by
 intro pins s σ H xs us Q I r h;obtain⟨z,rfl,hz,q⟩:=h;obtain⟨u,rfl,t,rfl⟩:=j0 r;have hn:=qQ;exact len_str (by omega) ⟨.int z.length,H,I.tok _,⟨_,rfl⟩,q⟩
theorem dD.or{f:Value}{r r':List V->Hp->VK->Prop}(h:dD X f r)(h':dD X f r'):dD X f (λxs H Q=>r xs H Q\/r' xs H Q):=by
 intro pins s σ H xs us Q I rs q;rcases q with q|q
 ·exact h pins s σ H xs us Q I rs q
 ·exact h' pins s σ H xs us Q I rs q
theorem o8:dD X (.type "list") (λxs H Q=>∃p ys,xs=[.ref p]/\(kY X.K H p ys\/nh X.K H p ys)/\∀l,H l=none->Q (.ref l) (c8 H l (.lst ys))):=by
 intro pins s σ H xs us Q I r h;obtain⟨p,ys,rfl,hq,q⟩:=h;obtain⟨u,rfl,rx⟩:=j0 r;cases rx;have fin:∀(its:List Value),Vals ys its->ys.length<=sizeLine->∀(h':Heap)(c':Nat),(∀b o',s.heap.get? b=some o'->h'.get? b=some o')->
   h'.get? s.heap.objs.size=some {cls:=.type "list",dict:=none,data:=.seq its.toArray c',slots:=#[]}->EP X pins σ Q (.ref s.heap.objs.size) {s with heap:=h'}:=λits r' hz h' c' kp e=>
  ⟨.ref s.heap.objs.size,_,I.laid (t':=s.toks) kp (le_refl _) (show ck X.prog X.w _ h' _ (.lst ys) from⟨hz,its,c',r',e⟩),rfl,q _ (I.hok.fresh (le_refl _))⟩
 rcases hq with hq|hq
 ·obtain⟨its,r',pl,hz⟩:=I.list hq;have hlen:=r'.length;obtain⟨o,ho,hc,n,hd⟩:=pl.isList;exact call_list_seq p (.inl rfl) ho hc hd (λh' c' kp e=>fin its r' hz h' c' kp e) (by simp only[size_toArray] <;> omega)
 ·obtain⟨its,r',pl,hz⟩:=I.tuple hq;have hlen:=r'.length;obtain⟨o,ho,hc,n,hd⟩:=pl;exact call_list_seq p (.inr rfl) ho hc hd (λh' c' kp e=>fin its r' hz h' c' kp e) (by simp only[size_toArray] <;> omega)
theorem mI:dD X (.type "tuple") (λxs H Q=>∃p ys,xs=[.ref p]/\((kY X.K H p ys/\∀l,H l=none->Q (.ref l) (c8 H l (.tup ys)))\/(nh X.K H p ys/\Q (.ref p) H))):=by
 intro pins s σ H xs us Q I r h;obtain⟨p,ys,rfl,h⟩:=h;obtain⟨u,rfl,rx⟩:=j0 r;cases rx;rcases h with⟨hq,q⟩|⟨hq,q⟩
 ·obtain⟨its,r',pl,hz⟩:=I.list hq;have hlen:=r'.length;refine call_tuple_list pl.isList (λh' kp=>?_) (by simp only[size_toArray] <;> omega)
  have I1:aC X pins σ H {s with heap:=h'}:=I.kept (t':=s.toks) kp;have I2:aC X pins σ (c8 H h'.objs.size (.tup ys)) {s with heap:=h'.push {cls:=.type "tuple",data:=.seq its.toArray}}:=
   I1.laid (t':=s.toks) (λb o e=>get?_push_of_some _ e) (le_refl _) (show ck X.prog X.w _ _ _ (.tup ys) from⟨hz,its,r',IsTup.new _ _⟩)
  exact⟨.ref h'.objs.size,_,I2,rfl,q _ (I1.hok.fresh (le_refl _))⟩
 ·obtain⟨its,r',pl,hz⟩:=I.tuple hq;exact call_tuple_same pl ⟨.ref p,H,I,rfl,q⟩
def Lj(K:Frag)(T:String)(x:V)(H:Hp):Prop:=match x with
 |.str _=>T = "str"
 |.int _=>T = "int"
 |.ref p=>(T = "list" /\ ∃xs,kY K H p xs)\/(T = "tuple" /\ ∃o,K.lookup p=some o/\o.cls=.type "tuple" /\ o.dict=none)\/
   (T = "dict" /\ ((∃kvs,H p=some (.dK kvs))\/∃kvs,H p=some (.dT kvs)))\/(T = "set" /\ ∃S n,H p=some (.set S n))
 |_=>False
theorem Hk{pins:List (Addr×Obj)}{σ:St}{H:Hp}{s:Shared}{T:String}{x:V}{v:Value}(I:aC X pins σ H s)(r:RelV x v)(ty:Lj X.K T x H):
  s.TypeIs v T/\∀a,v=.ref a->∃ob,s.heap.get? a=some ob/\ob.dict=none:=by
 cases x with
 |str z=>
  obtain⟨t,rfl⟩:=r;cases (show T = "str" from ty);exact⟨typeIs_str s z t,λ_ e=>nomatch e⟩
 |int i=>
  obtain⟨t,rfl⟩:=r;cases (show T = "int" from ty);exact⟨typeIs_int s i t,λ_ e=>nomatch e⟩
 |ref p=>
  cases r;rcases ty with⟨rfl,xs,hq⟩|⟨rfl,o,hk,hc,hd⟩|⟨rfl,hk⟩|⟨rfl,S,n,hk⟩
  ·obtain⟨its,_,pl,_⟩:=I.list hq;refine⟨pl.isList.typeIs,λa e=>?_⟩;cases e;obtain⟨o,n,e,c,hd,_⟩:=pl;exact⟨o,e,hd⟩
  ·refine⟨⟨o,I.kIn p o hk,hc⟩,λa e=>?_⟩;cases e;exact⟨o,I.kIn _ o hk,hd⟩
  ·have z:∃o,s.heap.get? p=some o/\o.ExactDict:=by
    rcases hk with⟨kvs,hk⟩|⟨kvs,hk⟩
    ·obtain⟨_,_,_,_,o,_,_,e,ex,_⟩:=I.hok p _ hk;exact⟨o,e,ex⟩
    ·obtain⟨_,_,_,_,o,_,_,e,ex,_⟩:=I.hok p _ hk;exact⟨o,e,ex⟩
   obtain⟨o,e,ex⟩:=z;refine⟨⟨o,e,ex.1⟩,λa e2=>?_⟩;cases e2;exact⟨o,e,ex.2.1⟩
  ·obtain⟨o,_,_,_,e,ex,_⟩:=I.hok p _ hk;refine⟨⟨o,e,ex.1⟩,λa e2=>?_⟩;cases e2;exact⟨o,e,ex.2.1⟩
 |_=>exact False.elim ty
def Lx(K:Frag)(T:String)(r:V->List V->Hp->VK->Prop)(to:TE)(t:TA):TE:=λσ H Q=>to σ H λx H1=>Lj K T x H1/\t σ H1 λxs H2=>r x xs H2 Q
variable{o e:Expr}{es:List Expr}{to:TE}{t:TA}{name:Str}{apos cpos:Pos}{T id:String}{r:V->List V->Hp->VK->Prop}
theorem GS(pa:PlainAttrs T)(slot:Slot T name id)(hty:typeOf (.builtin id)=pure (.type "method_descriptor"))(hm:Jo X id r)(ho:PE X o to)(ha:PA X (e::es) t)
  (hbase:attributeBase o name X.env (eval o X.env)=eval o X.env:=by rfl)
  (hfew:((backTo cpos (starEach (e::es) X.env)).all (λx=>!x.1) && (backToKw cpos (keywordEach [] X.env)).all (λx=>x.1.isSome)
   && decide ((e::es).length+([]:List Keyword).length+(if([]:List Keyword).isEmpty then 0 else 1)<30))=true:=by rfl)
  (hline:(apos.endLine == cpos.line)=true:=by rfl) (hs:starEach (e::es) X.env=(false,eval e X.env)::starEach es X.env:=by rfl) (hplain:(backTo cpos (starEach es X.env)).any (·.1)=false:=by rfl):
  PE X (.Call (.Attribute o name apos) (e::es) [] cpos) (Lx X.K T r to t):=by
 intro pins s σ H Q I h;refine wpAny_Call_method_late hbase hfew hline rfl (dA (ho pins s σ H _ I h) λv s1 ⟨x,H1,I1,r1,ty,q1⟩=>?_);obtain⟨h1,h2⟩:=Hk I1 r1 ty;refine⟨T,id,pa,slot,hty,h1,h2,?_⟩;have hA:=ha cpos pins s1 σ H1 _ I1 q1;rw[hs] at hA ⊢;refine Calls.callWith_builtin (by show(false || (backTo cpos (starEach es X.env)).any (·.1))=false;rw[hplain] <;> rfl) (Calls.evalArgs_plain ?_)
 exact dA hA λus s2 ⟨vs,H2,I2,r2,q2⟩=>hm pins s2 σ H2 x vs v us Q I2 r1 r2 q2
end
def Le(X:Cx)(id:String)(r:V->List V->Hp->VK->Prop):Prop:=
 ∀(pins:List (Addr×Obj))(s:Shared)(σ:St)(H:Hp)(x:V)(xs:List V)(v:Value)(us:List Value)(Q:VK),aC X pins σ H s->RelV x v->Vals xs us->r x xs H Q->
  wpAny (model X.prog X.w) X.A (call (.builtin id) (v::us)) (EP X pins σ Q) X.xe s
theorem Vals.one:∀{x:V}{us:List Value},Vals [x] us->∃u,us=[u]/\RelV x u
 |_,_,.cons r .nil=>⟨_,rfl,r⟩
theorem Vals.two:∀{x y:V}{us:List Value},Vals [x,y] us->∃u v,us=[u,v]/\RelV x u/\RelV y v
 |_,_,_,.cons r (.cons q .nil)=>⟨_,_,rfl,r,q⟩
theorem Vals.zero:∀{us:List Value},Vals [] us->us=[]
 |_,.nil=>rfl
theorem Vals.dropLast{xs:List V}{us:List Value}(h:Vals xs us):Vals xs.dropLast us.dropLast:=by
 induction h with
 |nil=>exact .nil
 |cons r t ih=>
  cases t with
  |nil=>exact .nil
  |cons q t'=>exact .cons r ih
theorem Vals.rep{xs:List V}{us:List Value}(h:Vals xs us):∀k:Nat,Vals (replicate k xs).flatten (replicate k us).flatten
 |0=>.nil
 |k+1=>by
  rw[replicate_succ,replicate_succ,flatten_cons,flatten_cons];exact Vals.append h (Vals.rep h k)
theorem tO(its:List Value):∀(k:Nat)(acc:List Value),
  List.foldl (λx1 x2=>x1++x2) acc.toArray (replicate k its.toArray)=(acc++(replicate k its).flatten).toArray
 |0,acc=>by simp
 |k+1,acc=>by
  have e:acc.toArray++its.toArray=(acc++its).toArray:=by simp
  have e2:(acc++its)++(replicate k its).flatten=acc++(replicate (k+1) its).flatten:=by
   rw[replicate_succ,flatten_cons,append_assoc]
  rw[←e2,←tO its k (acc++its),←e,replicate_succ,foldl_cons]
section
variable{X:Cx}{pins:List (Addr×Obj)}{σ:St}{H:Hp}{s:Shared}{l b:Addr}{xs ys zs:List V}
theorem aC.lset{its its':List Value}{n:Nat}{f:Array Value->Array Value}{t':Nat}(I:aC X pins σ H s)(hH:H l=some (.lst xs))
  (e:s.heap.get? l=some {cls:=.type "list",data:=.seq its.toArray n}) (hf:f its.toArray=its'.toArray) (hv:Vals ys its') (hz:ys.length<=sizeLine):
  aC X pins σ (c8 H l (.lst ys)) {s with heap:=s.heap.update l (Obj.mapSeq f),toks:=t'}:=by
 have q:=PySem.IsL.update e f;rw[hf] at q;refine I.write (x:=l) (e:=l) (by rw[hH];exact trivial) (.inl rfl) (λb' u hb hu=>(get?_update_other s.heap (Obj.mapSeq f) (Ne.symm hb)).trans hu) ⟨_,q⟩ ?_
 exact⟨hz,its',_,hv,q⟩
theorem aC.lnew{its:List Value}{t':Nat}(I:aC X pins σ H s)(hv:Vals ys its)(hz:ys.length<=sizeLine):
  aC X pins σ (c8 H s.heap.objs.size (.lst ys)) {s with heap:=s.heap.push {cls:=.type "list",data:=.seq its.toArray},toks:=t'}:=
 I.laid (λ_ _ q=>get?_push_of_some _ q) (le_refl _) ⟨hz,its,0,hv,get?_push_size _ rfl⟩
theorem aC.fresh(I:aC X pins σ H s):H s.heap.objs.size=none:=I.hok.fresh (le_refl _)
theorem aC.lstM(I:aC X pins σ H s)(hH:H l=some (.lst xs)):xs.length<=sizeLine/\∃(its:List Value)(n:Nat),Vals xs its/\xs.length=its.length/\s.heap.get? l=some {cls:=.type "list",data:=.seq its.toArray n}:=by
 obtain⟨z,its,n,r,e⟩:=I.hok l _ hH;exact⟨z,its,n,r,r.length,e⟩
theorem qL{n:Nat}(h:n<=sizeLine):Builtin.List.listTooLong n=false:=by
 unfold Builtin.List.listTooLong;exact decide_eq_false (by omega)
end
section
variable{X:Cx}
def FB:V->List V->Hp->VK->Prop:=λx vs H Q=>∃l xs y,x=.ref l/\vs=[y]/\H l=some (.lst xs)/\xs.length<sizeLine/\Q .non (c8 H l (.lst (xs++[y])))
theorem tm:Le X "list.append" FB:=by
 intro pins s σ H x vs v us Q I rx rv h;obtain⟨l,xs,y,rfl,rfl,hH,hz,q⟩:=h;cases rx;obtain⟨u,rfl,ru⟩:=rv.one;obtain⟨z,its,n,r,hl,e⟩:=I.lstM hH;refine call_meets F.slot_list_append ⟨_,e,rfl⟩ F.entry_list_append (F.args_list_append_2 _ _) (PySem.list_append l its.toArray n u (by rw[size_toArray];omega)) ⟨e,?_⟩
 refine⟨.non,_,I.lset (its':=its++[u]) hH e (by simp) (r.append (.cons ru .nil)) ?_,rfl,q⟩
 rw[length_append,length_singleton];omega
def KO:R2:=λx y H Q=>∃l k xs,x=.ref l/\y=.int k/\H l=some (.lst xs)/\-(2 ^ 63)<=k/\k<2 ^ 63/\xs.length * k.toNat<=sizeLine/\
 ∀p,H p=none->Q (.ref p) (c8 H p (.lst (replicate k.toNat xs).flatten))
theorem Ga{α:Type}(xs:List α)(k:Nat):(replicate k xs).flatten.length=k * xs.length:=by
 induction k with
 |zero=>simp
 |succ k ih=>rw[replicate_succ,flatten_cons,length_append,ih,Nat.succ_mul,Nat.add_comm]
theorem Ib:iU X (binaryOp .Mult) KO:=by
 intro pins s σ H x y v u Q I rx ry h;obtain⟨l,k,xs,rfl,rfl,hH,h1,h2,hz,q⟩:=h;cases rx;obtain⟨t,rfl⟩:=ry;obtain⟨z,its,n,r,hl,e⟩:=I.lstM hH;have hlen:its.toArray.size * k.toNat<=sizeLine:=by rw[size_toArray,←hl];exact hz
 have hcap:¬its.toArray.size * k.toNat > (2 ^ 63 - 1) / 8:=by
  have:(sizeLine:Nat)<=(2 ^ 63 - 1) / 8:=by decide
  omega
 have hfit:¬(!Builtin.List.listFitsIndex k)=true:=by
  rw[fitsIndex_both h1 h2];exact Bool.false_ne_true
 have hlong:¬Builtin.List.listTooLong (its.toArray.size * k.toNat)=true:=by
  rw[qL hlen];exact Bool.false_ne_true
 have hnew:List.foldl (λx1 x2=>x1++x2) #[] (replicate (if its.toArray.isEmpty=true then 0 else k.toNat) its.toArray)=(replicate k.toNat its).flatten.toArray:=by
  have f0:∀m:Nat,List.foldl (λx1 x2=>x1++x2) #[] (replicate m its.toArray)=(replicate m its).flatten.toArray:=λm=>by
   have:=tO its m [];rw[nil_append] at this;exact this
  rw[f0];cases its with
  |nil=>simp
  |cons a r'=>rw[if_neg (by simp)]
 refine wpAny_binaryOp_repeat_ref (T := "list") (U := "int") (by decide) ⟨_,e,rfl⟩ (λs'=>typeIs_int s' k t) noFill_list_mul F.fills_int_mul F.slot_int_rmul repeat_list F.slot_int_index.lookup
  (call_meets F.slot_int_rmul (typeIs_int s k t) F.entry_int_rmul (F.args_int_rmul_2 _ _) (int___rmul___int_list k t l its.toArray n)
   ⟨e,rfl,⟨_,e,rfl⟩,call_meets F.slot_list_mul ⟨_,e,rfl⟩ F.entry_list_mul (F.args_list_mul_2 _ _) (AutoListH.list___mul___list_int_3 l its.toArray n k t hfit hcap hlong) ⟨e,?_⟩⟩)
 rw[hnew];exact⟨.ref _,_,I.lnew (t':=s.toks) (r.rep k.toNat) (by rw[Ga,Nat.mul_comm];exact hz),rfl,q _ I.fresh⟩
end
end L2
namespace Att
open PySem PySem.W PySem.Calls PyProof.Rows
theorem ph{P:Params}{h:Heap}:∀(ns:List Int)(vs:List Value),WellAll P h vs (ns.map WData.int)->IntsAre vs ns:=by
 intro ns
 induction ns with
 |nil=>
  intro vs w;rw[map_nil] at w;cases w;exact .nil
 |cons n ns ih=>
  intro vs w;rw[map_cons] at w;cases w with
  |cons a b=>
   cases a;exact .cons _ _ (ih _ b)
theorem Br{l:OpenLaw}{n:Nat}(hn:l.most=some n){P:Params}{h:Heap}{args:List WData}{vals:List Value}
  (hpre:l.row.toRowW.claim.pre args=true) (hwl:WellAll P h vals args):
  ∃a vs ns,vals=[Value.ref a]/\args=[WData.list (ns.map WData.int)]/\h.get? a=some {cls:=.type "list",data:=.seq vs.toArray}/\IntsAre vs ns/\ns.length<=n:=by
 have hsh:WShape.hasAll [] args [.list .int]=true:=(pre_splitW hpre).1;have hc:l.pre.holds [] {args:=args}=true:=(pre_splitW hpre).2;obtain⟨d,r,rfl,h1,h2⟩:=hasAllW_cons hsh;obtain rfl:=hasAllW_nil h2;obtain⟨xs,rfl,h3⟩:=hasW_list h1;obtain⟨ns,rfl⟩:=items_int h3;have hlen:ns.length<=n:=by
  unfold OpenLaw.pre at hc;have h4:(WTm.not (.lt (.lit (.int (n:Int))) (.len (.arg 0)))).holds [] {args:=[.list (ns.map .int)]}=true:=by
   have h4:=(holds_andW hc).1;rw[hn] at h4;exact h4
  have h5:=condW_of h4 (w_not (w_lt w_lit (w_len_list (w_arg rfl))));rw[length_map] at h5;refine Nat.le_of_not_lt λq=>?_;have q':(n:Int)<((ns.length:Nat):Int):=by omega
  first
   | (rw[decide_eq_true q'] at h5;exact absurd h5 (by decide))
   | (simp at h5;omega)
 cases hwl with
 |cons w1 w2=>
  cases w2;cases w1 with
  |list ho hall=>exact⟨_,_,ns,rfl,rfl,ho,ph ns _ hall,hlen⟩
theorem BG(l:OpenLaw)(args:List WData):l.row.toRowW.claim.post args (.bool true) args=true:=
 postW_of (r:=l.row.toRowW) (X:=(true == true))
  (show WShape.has [] (.bool true) .bool=true by first|rfl|decide|simp[WShape.has,WShape.arms,WShape.armsAll])
  (show(WTm.eq .res (.lit (.bool true))).value [] {args:=args,res:=some (.bool true),after:=args}=some (.bool (true == true)) from w_eq_bool (w_res rfl) w_lit) rfl
theorem attach_call{l:OpenLaw}{n:Nat}{q:Program}{loose:List Str}{XP:(Str->Option Value)->Heap->Prop}{YP:World->Heap->Prop}{d:DefRec}
  (hn:l.most=some n) (hdf:d.params.defaults=[])
  (call:∀(w:World)(s₀ s₁:Shared)(mg mb:Str->Option Value)(fa:Addr)(o:Obj)(pm cd doc:Value)(a:Addr)(vs:List Value)(ns:List Int),
   Ground q loose [] XP w s₀ mg mb s₁.heap->YP w s₁.heap->
   s₁.heap.get? fa=some o->o.data=.func (docDef d.name d.params d.body d.scope pm cd doc)->s₁.heap.CodeRec cd d.name->mg d.name=some (.ref fa)->
   s₁.heap.get? a=some {cls:=.type "list",data:=.seq vs.toArray}->IntsAre vs ns->ns.length<=n->s₁.gens=#[]->
   codeAny (model l.prog w) callerA (.call (.ref fa) ⟨[.ref a],[]⟩) (λr s'=>r=.ok (.ret (.bool true))/\OldK s₁.heap s'.heap/\s'.os=s₁.os/\AllBare s'.gens) s₁):
  WalkO q loose XP YP l.row.toRowW d [] (λf vs=>PySem.call f vs):=by
 intro w s₀ s₁ mg mb G Y fa o pm cd doc dV kV ho hd hcd hD hmg hg args vals as hpre hlay hrd hwl hlo;obtain rfl:dV=.none:=Dflts.none hD hdf;obtain rfl:kV=.none:=Dflts.noKw hD;obtain⟨a,vs,ns,rfl,rfl,hobj,hints,hlen⟩:=Br hn hpre hwl;refine enter_call (codeAny_mono (call w s₀ s₁ mg mb fa o pm cd doc a vs ns G Y ho (fd_plain hd) hcd hmg hobj hints hlen hg) λr s' hq=>?_);obtain⟨rfl,h2,h3,h4⟩:=hq;exact⟨.inl ⟨.bool true,.bool true,[],rfl,λ_=>rfl,.bool true,BG l _,λ_=>⟨List.Pairwise.nil,λ_ hm=>(nomatch hm)⟩⟩,h2,h3,h4⟩
section
variable{prog:Program}{w:World}{A:Around}{E:Value->Shared->Prop}{s:Shared}{K:Frag}
def KY(h:Heap)(L d:Addr):List (Addr×Obj):=(List.range h.objs.size).filterMap λa=>if a=L\/a=d then none else(h.get? a).map λo=>(a,o)
end
end Att
namespace L2
open PySem PySem.Spec PyProof.Rows
theorem ou:∀{vs:List Value}{ns:List Int},IntsAre vs ns->Vals (ns.map V.int) vs
 |_,_,.nil=>.nil
 |_,_,.cons n t h=>.cons ⟨t,rfl⟩ (ou h)
def Je(H:Hp):Prop:=∀b,H b=none\/∃o xs,H b=some (.frz o (.lst xs))
theorem Ej{P:Program}{w:World}{K:Frag}{mg mb:Str->Option Value}{CX:B7}{k:Nat}{fa a:Addr}{fd:FuncData}{x:Str}{sp:Sp}{s₁:Shared}{vs:List Value}{ns:List Int}
  (KX:K.In s₁.heap) (hns:s₁.heap.Ns mainGlobals mg) (hb:s₁.heap.Ns builtinsNs mb) (hbb:∀x:Str,x ≠ "__name__" -> mb x=bootBuiltins x) (hlim:s₁.heap.NoLimit) (hg:s₁.gens=#[])
  (ha:s₁.heap.get? a=some {cls:=.type "list",data:=.seq vs.toArray}) (hi:IntsAre vs ns) (hl:ns.length<=sizeLine) (hr:bN k callerA)
  (F:∀base:Heap,K.In base->base.Ns mainGlobals mg->dQ P w K mg base CX k fa fd [x] sp) (hbind:∀(s:Shared)(u:Value),BindsTo s fd ⟨[u],[]⟩ [(x,u)])
  (hsp:∀H:Hp,Je H->kY K H a (ns.map V.int)->sp [.ref a] H (λv _=>v=.bl true) λ_ _ _=>False)
  (hCX:∀H e s',CX [] H s₁ (λ_ _ _=>False) e s'->False):
  codeAny (model P w) callerA (.call (.ref fa) ⟨[.ref a],[]⟩) (λr s'=>r=.ok (.ret (.bool true))/\OldK s₁.heap s'.heap/\s'.os=s₁.os/\AllBare s'.gens) s₁:=by
 have rv:=ou hi;have lenV:=hi.length;have core:∀H:Hp,Je H->kY K H a (ns.map V.int)->lV P w H s₁.heap->(∀b,H b≠none->b=a)->(H a≠none->K.lookup a=none)->
   codeAny (model P w) callerA (.call (.ref fa) ⟨[.ref a],[]⟩) (λr s'=>r=.ok (.ret (.bool true))/\OldK s₁.heap s'.heap/\s'.os=s₁.os/\AllBare s'.gens) s₁:=by
  intro H hO hS hok hA hK;have base_of:∀{b:Addr}{o:Obj},s₁.heap.get? b=some o->H b=none->(lI s₁.heap H).get? b=some o:=λe n=>xo e n;have noA:∀{b:Addr}{o:Obj}{es:Array DictEntry}{ep:Nat},s₁.heap.get? b=some o->o.data=.dict es ep->H b=none:=λ{b o es ep} e d=>by
   cases q:H b with
   |none=>rfl
   |some u=>
    have e':b=a:=hA b (by rw[q];simp)
    subst e';rw[ha] at e;cases e;have d':Data.seq vs.toArray _=Data.dict es ep:=d;cases d'
  have nsK:∀{b:Addr}{m:Str->Option Value},s₁.heap.Ns b m->(lI s₁.heap H).Ns b m:=λ{b m} ⟨o,es,ep,e,d,r⟩=>⟨o,es,ep,base_of e (noA e d),d,r⟩;have hKb:K.In (lI s₁.heap H):=λb o e=>base_of (KX b o e) (by
   cases q:H b with
   |none=>rfl
   |some u=>
    have e':b=a:=hA b (by rw[q];simp)
    subst e';rw[hK (by rw[q];simp)] at e;cases e)
  have hM:Mod K mg (lI s₁.heap H):=⟨hKb,nsK hns,⟨mb,nsK hb,hbb⟩,let ⟨mc,h1,h2⟩:=hlim;⟨mc,nsK h1,h2⟩⟩;have e0:lW P w K mg (lI s₁.heap H) callerA [] s₁ H:=⟨rfl,hM,λb o e=>Ax e,le_of_eq (tG _ _),trivial,λb hb=>absurd (show b∈([]:List Addr) from hb) (by simp),hok,.of_eq hg⟩
  refine codeAny_mono ((F _ hKb (nsK hns)).run callerA [] s₁ H ⟨[.ref a],[]⟩ [.ref a] [.ref a] _ _ hr e0 (hbind s₁ (.ref a)) (.cons rfl .nil) (hsp H hO hS)) λr s' h=>?_;cases r with
  |error e=>exact(hCX H e s' h).elim
  |ok fl=>
   cases fl with
   |next=>exact False.elim h
   |brk=>exact False.elim h
   |cont=>exact False.elim h
   |ret u=>
    obtain⟨v,H',os,bare,un,hok',r',q⟩:=h;have q':v=.bl true:=q;subst q';obtain rfl:u=Value.bool true:=r';refine⟨rfl,OldK.of_keep λb o e=>?_,os,bare⟩;cases q:H b with
    |none=>exact un.keep b o e q (by intro z;exact absurd (show b∈([]:List Addr) from z) (by simp)) (by simp)
    |some u=>
     rcases hO b with z|⟨ob,xs,z⟩
     ·rw[q] at z;cases z
     ·have z2:=un.frzs b ob _ z;obtain⟨e1,_⟩:=hok b _ z;obtain⟨e2,_⟩:=hok' b _ z2;rw[e] at e1;cases e1;exact e2
 cases hk:K.lookup a with
 |some o=>
  have e:=KX a o hk;rw[ha] at e;cases e;refine core (λ_=>none) (λ_=>.inl rfl) (.inr ⟨_,vs.toArray,_,hk,rfl,rfl,rfl,by rw[size_toArray,lenV];exact hl,by simpa using rv⟩) (λb u z=>by have z':(none:Option HO)=some u:=z;cases z') (λb z=>absurd rfl z) λz=>absurd rfl z
 |none=>
  refine core (λb=>if b=a then some (.frz {cls:=.type "list",data:=.seq vs.toArray} (.lst (ns.map V.int))) else none) (λb=>?_) (.inl (.inr ⟨{cls:=.type "list",data:=.seq vs.toArray},if_pos rfl⟩)) (λb u z=>?_) (λb z=>?_) λ_=>hk
  ·by_cases hb:b=a
   ·exact .inr ⟨_,_,if_pos hb⟩
   ·exact .inl (if_neg hb)
  ·by_cases hb:b=a
   ·have z':=(if_pos hb).symm.trans z;cases z';subst hb;exact⟨ha,by rw[length_map];exact hl,vs,_,rv,ha⟩
   ·have z':=(if_neg hb).symm.trans z;cases z'
  ·by_cases hb:b=a
   ·exact hb
   ·exact absurd (if_neg hb) z
abbrev LG{K:Frag}{h:Heap}(_:K.In h):Frag:=K
theorem Kn{l:PySem.W.OpenLaw}{n k:Nat}{q:Program}{loose:List Str}{XP:(Str->Option Value)->Heap->Prop}{YP:World->Heap->Prop}{d:DefRec}{K:Params->Frag}{CX:World->B7}{sp:World->Sp}{x:Str}
  (hn:l.most=some n) (hn2:n<=sizeLine) (hdf:d.params.defaults=[]) (hr:bN k callerA)
  (hY:∀(w:World)(h:Heap),YP w h->(K w.params).In h)
  (F:∀(w:World)(mg:Str->Option Value)(fa:Addr)(h:Heap),(K w.params).In h->h.Ns mainGlobals mg->mg d.name=some (.ref fa)->
   ∃fd:FuncData,(∀(s:Shared)(u:Value),BindsTo s fd ⟨[u],[]⟩ [(x,u)])/\
    ∀base:Heap,(K w.params).In base->base.Ns mainGlobals mg->dQ l.prog w (K w.params) mg base (CX w) k fa fd [x] (sp w))
  (hsp:∀(w:World)(H:Hp)(a:Addr)(ns:List Int),ns.length<=n->Je H->kY (K w.params) H a (ns.map V.int)->sp w [.ref a] H (λv _=>v=.bl true) λ_ _ _=>False)
  (hCX:∀(w:World)(H:Hp)(s:Shared)(e:Value)(s':Shared),CX w [] H s (λ_ _ _=>False) e s'->False):
  PySem.W.WalkO q loose XP YP l.row.toRowW d [] (λf vs=>PySem.call f vs):=by
 refine Att.attach_call hn hdf λw s₀ s₁ mg mb fa o pm cd doc a vs ns G Y ho hd hcd hmg hobj hints hlen hg=>?_;have KX:=hY w _ Y;obtain⟨fd,hb,hF⟩:=F w mg fa _ KX G.T.g hmg;exact Ej KX G.T.g G.T.b G.T.builtins G.T.nolimit hg hobj hints (le_trans hlen hn2) hr hF hb (λH hO hS=>hsp w H a ns hlen hO hS) λH e s'=>hCX w H s₁ e s'
def bQ(s:Stmt)(j:Nat):Stmt:=match s with
 |.ClassDef _ _ _ body _ _ _ _ _ _ _=>body.getD j (.Pass ⟨0,0,0,0⟩)
 |_=>.Pass ⟨0,0,0,0⟩
def bR(s:Stmt):Arguments:=match s with
 |.FunctionDef _ a _ _ _ _ _ _ _ _=>a
 |_=>{posonlyargs:=[],args:=[],vararg:=none,kwonlyargs:=[],kw_defaults:=[],kwarg:=none,defaults:=[]}
def aR(s:Stmt):List Stmt:=match s with
 |.FunctionDef _ _ b _ _ _ _ _ _ _=>b
 |_=>[]
def ag(s:Stmt):Scope:=match s with
 |.FunctionDef _ _ _ _ _ _ sc _ _ _=>sc
 |_=>{kind:=.function,names:=[],isGenerator:=false,isCoroutine:=false}
abbrev l3:B7:=λ_ _ _ _ _ _=>False
abbrev E0:XK:=λ_ _ _=>False
theorem oZ{X:Cx}:oQ l3 X E0:=λ_ _ _ _ _ _ _ h=>h.elim
structure Fun(K:Frag)(x qual:Str)(st:Stmt)(f:Addr)(fd:FuncData):Prop where
 ex:∃(oc:Value)(od:Option Addr)(kV doc pm:Value)(an:Option Addr)(cdv ct:Value)(osl:Array (Option Value)),
  fd=fnOf x qual (bR st) (aR st) (ag st) .none kV doc pm an cdv ct/\K.lookup f=some ⟨oc,od,.func fd,osl⟩/\codeIn K cdv qual=true
 kp:keepIn K (.ref f)=true
section
variable{P:Program}{w:World}{K:Frag}{mg:Str->Option Value}{base:Heap}
theorem Fun.ok{x qual:Str}{st:Stmt}{f:Addr}{fd:FuncData}{N ps:List Str}{k:Nat}{sp:Sp}(F:Fun K x qual st f fd)(S:aq N ps (ag st))(len:∀vs H Q E,sp vs H Q E->vs.length=ps.length)
  (hbody:∀(cdv:Value)(A:Around)(outer:List Env)(s:Shared)(H:Hp)(vs:List V)(Q:VK)(E:XK),bN k (A.deeper (envOfC qual (ag st) s.heap.objs.size f cdv))->sp vs H Q E->
   ∃t,pQ (lP l3 P w K mg base N qual (ag st) f cdv A outer s H E).nox (aR st) t/\t {nx:=λ_ H'=>Q .non H',rt:=Q} (start N vs) H):dQ P w K mg base l3 (k+1) f fd ps sp:=by
 obtain⟨oc,od,kV,doc,pm,an,cdv,ct,osl,rfl,lk,hcd⟩:=F.ex;refine Hb lk hcd S len λA outer s H vs Q E hr hsp=>?_;obtain⟨t,h,q⟩:=hbody cdv A outer s H vs Q E hr hsp;exact⟨t,h.nox,q⟩
theorem Fun.binds{x qual:Str}{st:Stmt}{f:Addr}{fd:FuncData}{ps:List Str}(F:Fun K x qual st f fd)
  (h:∀(kV doc pm:Value)(an:Option Addr)(cdv ct:Value)(us:List Value),us.length=ps.length->bindArgs (fnOf x qual (bR st) (aR st) (ag st) .none kV doc pm an cdv ct) ⟨us,[]⟩=pure (ps.zip us)):gy K fd ps []:=by
 obtain⟨oc,od,kV,doc,pm,an,cdv,ct,osl,rfl,lk,hcd⟩:=F.ex;exact .all (h kV doc pm an cdv ct)
theorem lJ{x qual:Str}{st:Stmt}{f:Addr}{oc:Value}{od an:Option Addr}{osl:Array (Option Value)}{kV doc pm cdv ct:Value}(l:K.lookup f=some ⟨oc,od,.func (fnOf x qual (bR st) (aR st) (ag st) .none kV doc pm an cdv ct),osl⟩)
  (c:codeIn K cdv qual=true) (k:keepIn K (.ref f)=true):Fun K x qual st f (fnOf x qual (bR st) (aR st) (ag st) .none kV doc pm an cdv ct):=⟨⟨oc,od,kV,doc,pm,an,cdv,ct,osl,rfl,l,c⟩,k⟩
end
theorem xn{A:Around}{k:Nat}(hr:bN k A):A.units+1<cLine:=Nat.lt_of_le_of_lt (Nat.add_le_add_left (by decide:1<=64) _) hr.units
section
variable{X:Cx}
theorem pv(i:Nat){x:Str}{pos:Pos}(hN:X.N[i]?=some x:=by rfl)(hv:Ki X.env.scope x:=by first|exact Or.inl rfl|exact Or.inr (Or.inl rfl)|exact Or.inr (Or.inr rfl))(hd:(x == ("__debug__":Str))=false:=by decide)
  (hcd:(x == ("__classdict__":Str))=false:=by decide):PE X (.Name x pos) (nu i):=HK hN hv hd hcd
end
theorem L0{A B:Prop}(h:B):if false=true then A else B:=by
 rw[if_neg Bool.false_ne_true];exact h
theorem K7{A B:Prop}(h:A):if true=true then A else B:=by
 rw[if_pos rfl];exact h
def Same(H H':Hp):Prop:=∀b o,H b=some o->H' b=some o
theorem Same.refl(H:Hp):Same H H:=λ_ _ h=>h
theorem Same.trans{H H1 H2:Hp}(a:Same H H1)(b:Same H1 H2):Same H H2:=λc o h=>b c o (a c o h)
theorem Same.free{H H':Hp}(e:Same H H'){l:Addr}(h:H' l=Option.none):H l=Option.none:=by
 cases q:H l with
 |none=>rfl
 |some o=>
  rw[e l o q] at h;cases h
theorem Same.seq{K:Frag}{H H':Hp}{a:Addr}{xs:List V}(e:Same H H')(h:kY K H a xs):kY K H' a xs:=by
 rcases h with(h|⟨o,h⟩)|h
 ·exact .inl (.inl (e _ _ h))
 ·exact .inl (.inr ⟨o,e _ _ h⟩)
 ·exact .inr h
section
variable{κ:Type}[DecidableEq κ]
def ow(kvs:List (κ×V))(k:κ):Option V:=(kvs.find? λkv=>decide (kv.1=k)).map (·.2)
def nK(kvs:List (κ×V))(k:κ)(v:V):List (κ×V):=
 if(kvs.any λkv=>decide (kv.1=k))=true then kvs.map (λkv=>if kv.1=k then(kv.1,v) else kv) else kvs++[(k,v)]
def Hd(kvs:List (κ×V))(k:κ):List (κ×V):=kvs.filter λkv=>decide (kv.1≠k)
theorem nq{p:κ×V}{r:List (κ×V)}{k:κ}(e:p.1=k):ow (p::r) k=some p.2:=by simp[ow,find?_cons,e]
theorem nr{p:κ×V}{r:List (κ×V)}{k:κ}(e:¬p.1=k):ow (p::r) k=ow r k:=by simp[ow,find?_cons,e]
theorem vT(k:κ):∀kvs:List (κ×V),(kvs.any λkv=>decide (kv.1=k))=(ow kvs k).isSome
 |[]=>rfl
 |p::r=>by
  rw[any_cons];by_cases e:p.1=k
  ·simp only[nq e,decide_eq_true e,Bool.true_or,Option.isSome_some]
  ·rw[nr e,decide_eq_false e,Bool.false_or];exact vT k r
theorem p6(kvs:List (κ×V))(k:κ)(v:V):(nK kvs k v).length<=kvs.length+1:=by
 unfold nK;split
 ·rw[length_map];omega
 ·rw[length_append,length_cons,List.length_nil];omega
theorem RelO.isSome_eq{o:Option V}{u:Option Value}(r:RelO o u):o.isSome=u.isSome:=by
 cases o with
 |none=>cases u with
  |none=>rfl
  |some _=>exact(show False from r).elim
 |some _=>cases u with
  |none=>exact(show False from r).elim
  |some _=>rfl
theorem RelO.getD{o:Option V}{u:Option Value}{d:V}{d':Value}(r:RelO o u)(rd:RelV d d'):RelV (o.getD d) (u.getD d'):=by
 cases o with
 |none=>cases u with
  |none=>exact rd
  |some _=>exact(show False from r).elim
 |some _=>cases u with
  |none=>exact(show False from r).elim
  |some _=>exact r
theorem KV.val{kvs:List (κ×V)}{vs:List (κ×Value)}(r:KV kvs vs)(k:κ):RelO (ow kvs k) (valueAt vs k):=by
 unfold KV at r
 induction r with
 |nil=>exact True.intro
 |@cons p q ps qs h t ih=>
  obtain⟨h1,h2⟩:=h;by_cases e:p.1=k
  ·have e':q.1=k:=h1.symm.trans e;have b:valueAt (q::qs) k=some q.2:=by simp[valueAt,find?_cons,e']
   rw[nq e,b];exact h2
  ·have e':¬q.1=k:=λz=>e (h1.trans z);have b:valueAt (q::qs) k=valueAt qs k:=by simp[valueAt,find?_cons,e']
   rw[nr e,b];exact ih
theorem KV.any{kvs:List (κ×V)}{vs:List (κ×Value)}(r:KV kvs vs)(k:κ):(kvs.any λkv=>decide (kv.1=k))=vs.any λkv=>decide (kv.1=k):=by
 unfold KV at r
 induction r with
 |nil=>rfl
 |cons h t ih=>rw[any_cons,any_cons,ih,h.1]
theorem KV.repl{kvs:List (κ×V)}{vs:List (κ×Value)}(r:KV kvs vs)(k:κ){y:V}{u:Value}(ry:RelV y u):
  KV (kvs.map λkv=>if kv.1=k then(kv.1,y) else kv) (vs.map λkv=>if kv.1=k then(kv.1,u) else kv):=by
 unfold KV at r ⊢
 induction r with
 |nil=>exact .nil
 |@cons p q ps qs h t ih=>
  rw[map_cons,map_cons];refine .cons ?_ ih;obtain⟨h1,h2⟩:=h;by_cases e:p.1=k
  ·rw[if_pos e,if_pos (h1.symm.trans e)];exact⟨h1,ry⟩
  ·rw[if_neg e,if_neg (λz=>e (h1.trans z))];exact⟨h1,h2⟩
theorem KV.put{kvs:List (κ×V)}{vs:List (κ×Value)}(r:KV kvs vs)(k:κ){y:V}{u:Value}(ry:RelV y u):KV (nK kvs k y) (stored vs k u):=by
 unfold nK stored;rw[r.any k];by_cases e:(vs.any λkv=>decide (kv.1=k))=true
 ·rw[if_pos e,if_pos e];exact r.repl k ry
 ·rw[if_neg e,if_neg e];exact Paired.snoc r ⟨rfl,ry⟩
theorem KV.drop{kvs:List (κ×V)}{vs:List (κ×Value)}(r:KV kvs vs)(k:κ):KV (Hd kvs k) (without vs k):=by
 unfold KV at r ⊢;unfold Hd without
 induction r with
 |nil=>exact .nil
 |@cons p q ps qs h t ih=>
  obtain⟨h1,h2⟩:=h;rw[List.filter_cons,List.filter_cons];by_cases e:p.1=k
  ·have a:¬decide (p.1≠k)=true:=by simp[e]
   have b:¬decide (q.1≠k)=true:=by simp[h1.symm.trans e]
   rw[if_neg a,if_neg b];exact ih
  ·have e':¬q.1=k:=λz=>e (h1.trans z);have a:decide (p.1≠k)=true:=by simp[e]
   have b:decide (q.1≠k)=true:=by simp[e']
   rw[if_pos a,if_pos b];exact .cons ⟨h1,h2⟩ ih
theorem KV.keys{kvs:List (κ×V)}{vs:List (κ×Value)}(r:KV kvs vs):kvs.map (·.1)=vs.map (·.1):=by
 unfold KV at r
 induction r with
 |nil=>rfl
 |cons h t ih=>rw[map_cons,map_cons,ih,h.1]
theorem KV.length{kvs:List (κ×V)}{vs:List (κ×Value)}(r:KV kvs vs):kvs.length=vs.length:=Paired.length r
end
theorem AB{P:Program}{w:World}{k:Key}{u:Value}(r:RelV (kV k) u):(f9 P w).is k u=true:=by
 cases k with
 |inl i=>obtain⟨t,e⟩:=(show ∃t,u=Value.int i t from r);subst e;exact wY P w i t
 |inr x=>obtain⟨t,e⟩:=(show ∃t,u=Value.str x t from r);subst e;exact wX P w x t
theorem tw{P:Program}{w:World}:∀{ks:List Key}{us:List Value},Vals (ks.map kV) us->ItemsAre (f9 P w) ks us
 |[],_,r=>by rw[map_nil] at r;cases r;exact .nil
 |k::ks,_,r=>by
  rw[map_cons] at r;cases r with
  |cons h t=>exact .cons (AB h) (tw t)
abbrev KT(H:Hp):List (List Key×V)->List (List Key×Addr×Value)->Prop:=Paired λp q=>p.1=q.1/\H q.2.1=some (.tup (p.1.map kV))/\RelV p.2 q.2.2
theorem KT.val{H:Hp}{kvs:List (List Key×V)}{xs:List (List Key×Addr×Value)}(r:KT H kvs xs)(k:List Key):RelO (ow kvs k) ((atKey xs k).map (·.2)):=by
 induction r with
 |nil=>exact True.intro
 |@cons p q ps qs h t ih=>
  obtain⟨h1,_,h2⟩:=h;by_cases e:p.1=k
  ·have e':q.1=k:=h1.symm.trans e;have b:atKey (q::qs) k=some q.2:=by simp[atKey,find?_cons,e']
   rw[nq e,b];exact h2
  ·have e':¬q.1=k:=λz=>e (h1.trans z);have b:atKey (q::qs) k=atKey qs k:=by simp[atKey,find?_cons,e']
   rw[nr e,b];exact ih
theorem KT.repl{H:Hp}{kvs:List (List Key×V)}{xs:List (List Key×Addr×Value)}(r:KT H kvs xs)(k:List Key){y:V}{u:Value}(ry:RelV y u):
  KT H (kvs.map λkv=>if kv.1=k then(kv.1,y) else kv) (xs.map (putAt k u)):=by
 induction r with
 |nil=>exact .nil
 |@cons p q ps qs h t ih=>
  rw[map_cons,map_cons];refine .cons ?_ ih;obtain⟨h1,h2,h3⟩:=h;unfold putAt;by_cases e:p.1=k
  ·rw[if_pos e,if_pos (h1.symm.trans e)];exact⟨h1,h2,ry⟩
  ·rw[if_neg e,if_neg (λz=>e (h1.trans z))];exact⟨h1,h2,h3⟩
theorem KT.put{H:Hp}{kvs:List (List Key×V)}{xs:List (List Key×Addr×Value)}(r:KT H kvs xs)(k:List Key){b:Addr}{y:V}{u:Value}(hb:H b=some (.tup (k.map kV)))(ry:RelV y u):
  KT H (nK kvs k y) (storedH xs k b u):=by
 have e:(kvs.any λkv=>decide (kv.1=k))=(atKey xs k).isSome:=by
  rw[vT,(r.val k).isSome_eq,Option.isSome_map]
 unfold nK storedH;rw[e];by_cases q:(atKey xs k).isSome=true
 ·rw[if_pos q,if_pos q];exact r.repl k ry
 ·rw[if_neg q,if_neg q];exact Paired.snoc r ⟨rfl,hb,ry⟩
theorem KT.keeps{H H':Hp}{kvs:List (List Key×V)}{xs:List (List Key×Addr×Value)}(r:KT H kvs xs)(ht:∀b ys,H b=some (.tup ys)->H' b=some (.tup ys)):KT H' kvs xs:=
 Paired.mapP r λ_ _ z=>⟨z.1,ht _ _ z.2.1,z.2.2⟩
section
variable{P:Program}{w:World}{H:Hp}{h:Heap}{a:Addr}
theorem GO{u:HO}(ok:lV P w H h)(e:Rd H a u):ck P w H h a u:=e.ok ok
theorem AL{kvs:List (Key×V)}(ok:lV P w H h)(e:Rd H a (.dK kvs)):kvs.length<=sizeLine/\(a == sysModules)=false/\∃vs,KV kvs vs/\h.DictOf (f9 P w) a vs:=
 show ck P w H h a (.dK kvs) from GO ok e
theorem Ke{kvs:List (Key×V)}(ok:lV P w H h)(e:H a=some (.dK kvs)):kvs.length<=sizeLine/\(a == sysModules)=false/\∃vs,KV kvs vs/\h.DictOf (f9 P w) a vs:=AL ok (.inl e)
theorem vt{ks:List Key}(ok:lV P w H h)(e:H a=some (.tup (ks.map kV))):(tupleKind (f9 P w)).is h ks a:=by
 obtain⟨_,its,r,o,h1,h2,n,h3⟩:=(show ck P w H h a (.tup (ks.map kV)) from ok a _ e);exact⟨o,its.toArray,n,h1,h2,h3,by simpa using tw r⟩
theorem AK{kvs:List (List Key×V)}(ok:lV P w H h)(e:Rd H a (.dT kvs)):kvs.length<=sizeLine/\(a == sysModules)=false/\
  ∃xs,KT H kvs xs/\h.DictOfH (tupleKind (f9 P w)) a xs:=by
 obtain⟨z,y,xs,r,o,es,ep,h1,h2,h3,h4,h5⟩:=(show ck P w H h a (.dT kvs) from GO ok e);refine⟨z,y,xs,r,o,es,ep,h1,h2,h3,h4,λx hx=>?_,h5⟩;have all:∀{l:List (List Key×V)}{m:List (List Key×Addr×Value)},KT H l m->∀x∈m,(tupleKind (f9 P w)).is h x.1 x.2.1:=by
  intro l m q
  induction q with
  |nil=>intro x hx;exact nomatch hx
  |@cons p q ps qs hq t ih=>
   intro x hx;rcases mem_cons.mp hx with e|hx
   ·subst e;exact vt ok (by rw[←hq.1];exact hq.2.1)
   ·exact ih x hx
 exact all r x hx
theorem Kc{kvs:List (List Key×V)}(ok:lV P w H h)(e:H a=some (.dT kvs)):kvs.length<=sizeLine/\(a == sysModules)=false/\
  ∃xs,KT H kvs xs/\h.DictOfH (tupleKind (f9 P w)) a xs:=AK ok (.inl e)
end
def rE(H:Hp)(a:Addr)(y:V)(r:Option V):Prop:=
 (∃kvs k,Rd H a (.dK kvs)/\y=kV k/\r=ow kvs k)\/∃kvs k b,Rd H a (.dT kvs)/\y=.ref b/\H b=some (.tup (k.map kV))/\r=ow kvs k
def D8(H:Hp)(a:Addr)(y v:V)(H':Hp):Prop:=
 (∃kvs k,H a=some (.dK kvs)/\y=kV k/\kvs.length<sizeLine/\H'=c8 H a (.dK (nK kvs k v)))\/
 ∃kvs k b,H a=some (.dT kvs)/\y=.ref b/\H b=some (.tup (k.map kV))/\kvs.length<sizeLine/\H'=c8 H a (.dT (nK kvs k v))
theorem rE.k{H:Hp}{a:Addr}{kvs:List (Key×V)}{k:Key}(e:H a=some (.dK kvs)):rE H a (kV k) (ow kvs k):=.inl ⟨kvs,k,.inl e,rfl,rfl⟩
theorem rE.t{H:Hp}{a b:Addr}{kvs:List (List Key×V)}{k:List Key}(e:H a=some (.dT kvs))(eb:H b=some (.tup (k.map kV))):rE H a (.ref b) (ow kvs k):=.inr ⟨kvs,k,b,.inl e,rfl,eb,rfl⟩
theorem D8.k{H:Hp}{a:Addr}{kvs:List (Key×V)}{k:Key}{v:V}(e:H a=some (.dK kvs))(hl:kvs.length<sizeLine):D8 H a (kV k) v (c8 H a (.dK (nK kvs k v))):=.inl ⟨kvs,k,e,rfl,hl,rfl⟩
theorem D8.t{H:Hp}{a b:Addr}{kvs:List (List Key×V)}{k:List Key}{v:V}(e:H a=some (.dT kvs))(eb:H b=some (.tup (k.map kV)))(hl:kvs.length<sizeLine):
  D8 H a (.ref b) v (c8 H a (.dT (nK kvs k v))):=.inr ⟨kvs,k,b,e,rfl,eb,hl,rfl⟩
section
variable{X:Cx}{pins:List (Addr×Obj)}{σ:St}{H:Hp}{s:Shared}{a:Addr}{y v:V}{u r:Value}{o:Option V}{A:Around}{E:Value->Shared->Prop}
theorem aC.big(I:aC X pins σ H s):sysModules<s.heap.objs.size:=by
 have h:mainGlobals<s.heap.objs.size:=(I.mod.glob.keeps I.bk).lt;exact lt_trans (by decide) h
theorem CQ{Q:Value->Shared->Prop}(hu:A.units+1<cLine)(I:aC X pins σ H s)(g:rE H a y (some v))(ry:RelV y u)(h:∀w' s',aC X pins σ H s'->RelV v w'->Q w' s'):
  wpAny (model X.prog X.w) A (getItem (.ref a) u) Q E s:=by
 rcases g with⟨kvs,k,e,ey,l⟩|⟨kvs,k,b,e,ey,eb,l⟩
 ·subst ey;obtain⟨z,hd,vs,rel,dd⟩:=AL I.hok e;obtain⟨w',hw,rw'⟩:=RelO.some_of (v:=v) (o:=valueAt vs k) (by rw[l];exact rel.val k)
  exact wpAny_getItem_of (AB ry) dd.mapOf hw (h w' _ (I.tok _) rw')
 ·subst ey;cases (show u=Value.ref b from ry);obtain⟨z,hd,xs,rel,dd⟩:=AK I.hok e;obtain⟨w',hw,rw'⟩:=RelO.some_of (v:=v) (o:=(atKey xs k).map (·.2)) (by rw[l];exact rel.val k)
  obtain⟨p,hp,hp2⟩:=Option.map_eq_some_iff.mp hw;refine wpAny_getItem_heap (tupleKind_room_in1 hu) (vt I.hok eb) dd hp ?_;rw[hp2];exact h w' _ (I.tok _) rw'
theorem Gv{Q:Value->Shared->Prop}(hu:A.units+1<cLine)(I:aC X pins σ H s)(g:rE H a y o)(ry:RelV y u)(h:∀s',aC X pins σ H s'->Q (.bool (!o.isSome)) s'):
  wpAny (model X.prog X.w) A (compareOp .NotIn u (.ref a)) Q E s:=by
 rcases g with⟨kvs,k,e,ey,l⟩|⟨kvs,k,b,e,ey,eb,l⟩
 ·subst ey;obtain⟨z,hd,vs,rel,dd⟩:=AL I.hok e;refine wpAny_notIn_of (AB ry) hd dd.mapOf ?_;rw[←(rel.val k).isSome_eq,←l];exact h _ (I.tok _)
 ·subst ey;cases (show u=Value.ref b from ry);obtain⟨z,hd,xs,rel,dd⟩:=AK I.hok e;refine wpAny_notIn_heap (tupleKind_room_in1 hu) (vt I.hok eb) hd dd ?_;have q:=(rel.val k).isSome_eq;rw[Option.isSome_map] at q;rw[←q,←l];exact h _ (I.tok _)
theorem AQ{h':Heap}{t':Nat}{ob:HO}(I:aC X pins σ H s)(mu:Kk (H a))(hs:Heap.SameBut a s.heap h')(he:∃q,h'.get? a=some q)(new:ck X.prog X.w (c8 H a ob) h' a ob):
  aC X pins σ (c8 H a ob) {s with heap:=h',toks:=t'}:=
 I.write (x:=a) (e:=a) mu (.inl rfl) (λb q hb z=>(hs.2 b hb).trans z) he new
theorem IR{P:Program}{w:World}{H':Hp}{h':Heap}{kvs:List (Key×V)}{vs:List (Key×Value)}(z:kvs.length<=sizeLine)(hd:(a == sysModules)=false)(rel:KV kvs vs)(dd:h'.DictOf (f9 P w) a vs):
  ck P w H' h' a (.dK kvs):=⟨z,hd,vs,rel,dd⟩
theorem CP{H':Hp}{Q:Unit->Shared->Prop}(hu:A.units+1<cLine)(I:aC X pins σ H s)(g:D8 H a y v H')(ry:RelV y u)(rv:RelV v r)(h:∀s',aC X pins σ H' s'->Q () s'):
  wpAny (model X.prog X.w) A (setItem (.ref a) u r) Q E s:=by
 rcases g with⟨kvs,k,e,ey,l,eH⟩|⟨kvs,k,b,e,ey,eb,l,eH⟩
 ·subst ey eH;obtain⟨z,hd,vs,rel,dd⟩:=Ke I.hok e;have hz:vs.length<=sizeLine:=by rw[←rel.length];exact z
  have hl:(nK kvs k v).length<=sizeLine:=by have:=p6 kvs k v;omega
  refine wpAny_setItem_pairs (hsz:=hz) (AB ry) dd λh' dd' hs=>h _ ?_;have he:∃q,h'.get? a=some q:=let ⟨q,_,_,hq,_⟩:=dd';⟨q,hq⟩;exact AQ I (by rw[e];exact True.intro) hs he (IR hl hd (rel.put k rv) dd')
 ·subst ey eH;cases (show u=Value.ref b from ry);obtain⟨z,hd,xs,rel,dd⟩:=Kc I.hok e;have hz:xs.length<=sizeLine:=by rw[←Paired.length rel];exact z
  have hl:(nK kvs k v).length<=sizeLine:=by have:=p6 kvs k v;omega
  refine wpAny_setItem_heap (hsz:=hz) (tupleKind_room_in1 hu) (vt I.hok eb) dd λh' dd' hs=>h _ ?_;obtain⟨q,es,ep,hq,h2,h3,h4,_,h5⟩:=dd';refine AQ I (by rw[e];exact True.intro) hs ⟨q,hq⟩ ⟨hl,hd,_,(rel.put k eb rv).keeps λc ys ec=>?_,q,es,ep,hq,h2,h3,h4,h5⟩
  rw[av (JX ec e (λz=>nomatch z))]
  exact ec
end
def Jf(i:Expr):Prop:=∀ov iv,subscripted i false ov iv=operate [ov,iv] (getItem ov iv)
theorem Ft{prog:Program}{w:World}{A:Around}{E:Value->Shared->Prop}{s:Shared}{env:Env}{value slice:Expr}{pos:Pos}{T id:String}{Q:Value->Shared->Prop}
  (hl:typeLookup (.type T) "__getitem__" = pure (some (.builtin id))) (hs:Jf slice)
  (h:wpAny (model prog w) A (eval value env) (λo s₁=>wpAny (model prog w) A (eval slice env) (λi s₂=>s₂.TypeIs o T/\wpAny (model prog w) A (getItem o i) Q E s₂) E s₁) E s):
  wpAny (model prog w) A (eval (.Subscript value slice pos) env) Q E s:=by
 refine Subscript_ (wpAny_mono h (λo s₁ h₁=>wpAny_mono h₁ (λi s₂ h₂=>?_) λ_ _ x=>x) λ_ _ x=>x);obtain⟨hT,h₂⟩:=h₂;unfold subscriptTail;refine wpAny_bind ?_;rw[getitemInPython_of_ne hT.not_modules];refine wpAny_bind (wpAny_specialOf hT hl ?_);have fin:wpAny (model prog w) A (subscripted slice false o i) (λr s₃=>wpAny (model prog w) A (letTemporaryGo value o r >>= λ_=>pure r) Q E s₃) E s₂:=by
  rw[hs o i];exact wpAny_operating (wpAny_mono h₂ (λr s₃ h₃=>wpAny_bind (wpAny_letTemporaryGo (wpAny_pure h₃))) λ_ _ x=>x)
 first
  |exact wpAny_pure (wpAny_bind fin)
  |exact wpAny_bind (wpAny_pure (wpAny_bind fin))
  |exact wpAny_bind fin
theorem xP{X:Cx}{pins:List (Addr×Obj)}{σ:St}{H:Hp}{s:Shared}{a:Addr}{y:V}{o:Option V}(I:aC X pins σ H s)(g:rE H a y o):s.TypeIs (.ref a) "dict" := by
 rcases g with⟨kvs,k,e,_,_⟩|⟨kvs,k,b,e,_,_,_⟩
 ·obtain⟨_,_,vs,_,dd⟩:=AL I.hok e;exact dd.typeIs
 ·obtain⟨_,_,xs,_,dd⟩:=AK I.hok e;exact dd.typeIs
def Jv(td ty:TE):TE:=λσ H Q=>td σ H λx H1=>ty σ H1 λy H2=>∃a v,x=.ref a/\rE H2 a y (some v)/\Q v H2
def Ai(ty td:TE):TE:=λσ H Q=>ty σ H λy H1=>td σ H1 λx H2=>∃a o,x=.ref a/\rE H2 a y o/\Q (.bl (!o.isSome)) H2
def JD(td ty tv:TE):TS:=λD σ H=>tv σ H λv H1=>td σ H1 λx H2=>ty σ H2 λy H3=>∃a H4,x=.ref a/\D8 H3 a y v H4/\D.nx σ H4
section
variable{X:Cx}{o i e value:Expr}{pos pos' tpos:Pos}{td ty tv:TE}
theorem FQ(hu:X.A.units+1<cLine)(ho:PE X o td)(hi:PE X i ty)(hs:Jf i):PE X (.Subscript o i pos) (Jv td ty):=by
 intro pins s σ H Q I h;refine Ft PySem.F.slot_dict_getitem.lookup hs (dA (ho pins s σ H _ I h) λu s1 ⟨x,H1,I1,rx,q1⟩=>dA (hi pins s1 σ H1 _ I1 q1) λiv s2 ⟨y,H2,I2,ry,a,v,ex,g,q2⟩=>?_);subst ex;obtain rfl:u=Value.ref a:=rx;exact⟨xP I2 g,CQ hu I2 g ry λw' s3 I3 rw'=>⟨v,H2,I3,rw',q2⟩⟩
theorem BK(hu:X.A.units+1<cLine)(hi:PE X i ty)(ho:PE X o td):PC X .NotIn i o (Ai ty td):=by
 intro pins s σ H Q I h;refine dA (hi pins s σ H _ I h) λiv s1 ⟨y,H1,I1,ry,q1⟩=>dA (ho pins s1 σ H1 _ I1 q1) λu s2 ⟨x,H2,I2,rx,a,ov,ex,g,q2⟩=>?_;subst ex;obtain rfl:u=Value.ref a:=rx;exact Gv hu I2 g ry λs3 I3=>⟨.bl (!ov.isSome),H2,I3,rfl,q2⟩
theorem FH(hu:X.A.units+1<cLine)(ho:PE X o td)(hi:PE X i ty)(hv:PE X value tv)(hs:swapsWith value (some (.Subscript o i pos')) pos.line X.env=pure false):
  PS X (.Assign [.Subscript o i pos'] value pos) (JD td ty tv):=by
 intro pins s σ H D I h;refine wpAny_Assign_Subscript (dA (hv pins s σ H _ I h) λr s1 ⟨v,H1,I1,rv,q1⟩=>dA (ho pins s1 σ H1 _ I1 q1) λu s2 ⟨x,H2,I2,rx,q2⟩=>dA (hi pins s2 σ H2 _ I2 q2) λiv s3 ⟨y,H3,I3,ry,a,H4,ex,g,q3⟩=>?_) hs;subst ex;obtain rfl:u=Value.ref a:=rx;exact CP hu I3 g ry rv λs4 I4=>⟨σ,H4,I4,q3⟩
end
theorem EX{P:Program}{w:World}{H:Hp}(h:Heap)(hb:sysModules<h.objs.size):ck P w H (h.push {cls:=.type "dict",data:=.dict #[]}) h.objs.size (.dT []):=
 ⟨zero_le _,beq_eq_false_iff_ne.mpr (Ne.symm (ne_of_lt hb)),[],.nil,_,#[],0,get?_push_size _ rfl,⟨rfl,rfl,rfl⟩,rfl,rfl,List.nodup_nil⟩
def Hm:TE:=λ_ H Q=>∀p,H p=none->Q (.ref p) (c8 H p (.dT []))
section
variable{X:Cx}{pos:Pos}
theorem DR:PE X (.Dict [] [] pos) Hm:=λpins s σ H Q I h=>
 wpAny_Dict_empty ⟨.ref s.heap.objs.size,_,I.laid (a:=s.heap.objs.size) (o:=.dT []) (t':=s.toks) (λ_ _ q=>get?_push_of_some _ q) (le_refl _) (EX s.heap I.big),rfl,h _ (I.hok.fresh (le_refl _))⟩
end
end L2
namespace L3
open PySem
inductive D where
 |non|bl (b:Bool)|int (i:Int)|str (x:Str)|tup (ds:List D)|lst (ds:List D)|obj (c:String) (ns:List Str) (ds:List D)|fn (k:Nat) (ds:List D)
inductive O where
 |lst (ds:List D)|obj (c:String) (ns:List Str) (ds:List D)|dic (kvs:List (List Int×Int))|par (a:Nat) (o:O)|fdic (kvs:List (List Int×Int))|tab (kvs:List (D×D))|dik (kvs:List (Int×Int))
abbrev I0:Nat:=1000000
noncomputable instance decD:DecidableEq D:=λa b=>Classical.propDecidable (a=b)
noncomputable def O.val:O->D
 |.lst ds=>.lst ds
 |.obj c ns ds=>.obj c ns ds
 |.dic _=>.non
 |.par _ _=>.non
 |.fdic _=>.non
 |.tab _=>.non
 |.dik _=>.fn I0 []
def Lm:Nat->D->Bool
 |_,.int _=>true
 |n+1,.tup ds=>ds.all (Lm n)
 |_,_=>false
def okT:D->Bool
 |.tup ds=>ds.all (Lm 5)
 |_=>false
inductive S where
 |sh (d:D)|own (o:O)|two (d:D) (a:Nat) (o:O)
def S.val:S->D
 |.sh d=>d
 |.own o=>o.val
 |.two d _ _=>d
def S.nd:S->Bool
 |.own (.dic _)=>false
 |.own (.par _ _)=>false
 |.own (.fdic _)=>false
 |.own (.tab _)=>false
 |.two _ _ _=>false
 |_=>true
inductive R where
 |ok (s:S)|exc (x:D)
abbrev MEnv:=List (Option S)
inductive oq where
 |next (ρ:MEnv)|brk (ρ:MEnv)|cont (ρ:MEnv)|ret (s:S)|exc (x:D)
abbrev ME:=MEnv->Option R
abbrev MC:=MEnv->Option oq
inductive RI where
 |ok (ds:List D)|exc (x:D)
abbrev MI:=MEnv->Option RI
abbrev MB:=D->MEnv->Option MEnv
@[reducible] def okD (d:D):Option R:=some (.ok (.sh d))
@[reducible] def okI (i:Int):Option R:=okD (.int i)
@[reducible] def okB (b:Bool):Option R:=okD (.bl b)
@[reducible] def okL (ds:List D):Option R:=some (.ok (.own (.lst ds)))
def bh(r:Option R)(k:D->Option R):Option R:=match r with
 |some (.ok s)=>k s.val
 |some (.exc x)=>some (.exc x)
 |none=>none
def jj(r:Option R)(k:S->Option oq):Option oq:=match r with
 |some (.ok s)=>k s
 |some (.exc x)=>some (.exc x)
 |none=>none
@[simp] theorem bindV_ok (s:S) (k:D->Option R):bh (some (.ok s)) k=k s.val:=rfl
@[simp] theorem bindV_exc (x:D) (k:D->Option R):bh (some (.exc x)) k=some (.exc x):=rfl
@[simp] theorem bindV_none (k:D->Option R):bh none k=none:=rfl
@[simp] theorem bindO_ok (s:S) (k:S->Option oq):jj (some (.ok s)) k=k s:=rfl
@[simp] theorem bindO_exc (x:D) (k:S->Option oq):jj (some (.exc x)) k=some (.exc x):=rfl
@[simp] theorem bindO_none (k:S->Option oq):jj none k=none:=rfl
@[simp] theorem S.val_sh (d:D):(S.sh d).val=d:=rfl
@[simp] theorem S.val_own (o:O):(S.own o).val=o.val:=rfl
@[simp] theorem O.val_lst (ds:List D):(O.lst ds).val=.lst ds:=rfl
@[simp] theorem O.val_obj (c:String) (ns:List Str) (ds:List D):(O.obj c ns ds).val=.obj c ns ds:=rfl
noncomputable def a5(i:Nat):ME:=λρ=>match ρ[i]? with
 |some (some (.sh d))=>okD d
 |_=>none
noncomputable def il(i:Nat):ME:=λρ=>match ρ[i]? with
 |some (some (.own (.dic _)))=>none
 |some (some (.own (.par _ _)))=>none
 |some (some (.own (.fdic _)))=>none
 |some (some (.own (.tab _)))=>none
 |some (some (.two _ _ _))=>none
 |some (some s)=>okD s.val
 |_=>none
noncomputable def eC(d:D):ME:=λ_=>okD d
noncomputable def l5(f:D->Option R)(a:ME):ME:=λρ=>bh (a ρ) f
noncomputable def a8(f:D->D->Option R)(a b:ME):ME:=λρ=>bh (a ρ) λx=>bh (b ρ) λy=>f x y
def cx:List ME->MEnv->(List D->Option R)->Option R
 |[],_,k=>k []
 |e::es,ρ,k=>bh (e ρ) λd=>cx es ρ λds=>k (d::ds)
def ak(f:List D->Option R)(as:List ME):ME:=λρ=>cx as ρ f
def flat:D->Bool
 |.non=>true|.bl _=>true|.int _=>true|.str _=>true|_=>false
def qX:Option R->Option R
 |some (.ok s)=>if flat s.val then okD s.val else none
 |_=>none
def aY(f:List D->Option R)(as:List ME):ME:=λρ=>qX (cx as ρ f)
def lim:Nat:=1000000
def aD(as:List ME):ME:=ak (λds=>if ds.length<=lim then okD (.tup ds) else none) as
def fN(as:List ME):ME:=ak (λds=>if ds.length<=lim then okL ds else none) as
def asB:D->(Bool->Option R)->Option R
 |.bl b,k=>k b
 |_,_=>none
def fO(a b:ME):ME:=λρ=>bh (a ρ) λx=>asB x λc=>if c=true then b ρ else okB false
def AJ(a b:ME):ME:=λρ=>bh (a ρ) λx=>asB x λc=>if c=true then okB true else b ρ
def IS(x:D):Option R:=asB x λc=>okB (!c)
def pj(a:ME):ME:=l5 IS a
def Gq(c a b:ME):ME:=λρ=>bh (c ρ) λx=>asB x λt=>if t=true then a ρ else b ρ
def aw(a b:MC):MC:=λρ=>match a ρ with
 |some (.next ρ')=>b ρ'
 |o=>o
def bg:MC:=λρ=>some (.next ρ)
def aL(i:Nat)(e:ME):MC:=λρ=>jj (e ρ) λs=>some (.next (ρ.set i (some s)))
def aV(e:ME):MC:=λρ=>jj (e ρ) λs=>some (.ret s)
def asBO:D->(Bool->Option oq)->Option oq
 |.bl b,k=>k b
 |_,_=>none
def iq(c:ME)(a b:MC):MC:=λρ=>jj (c ρ) λs=>asBO s.val λt=>if t=true then a ρ else b ρ
def dem(i:Nat)(ρ:MEnv):MEnv:=match ρ[i]? with
 |some (some (.own (.dic _)))=>ρ
 |some (some (.own (.par _ _)))=>ρ
 |some (some (.own (.fdic _)))=>ρ
 |some (some (.own (.tab _)))=>ρ
 |some (some (.own o))=>ρ.set i (some (.sh o.val))
 |_=>ρ
def eV(i:Nat)(c:MC):MC:=λρ=>c (dem i ρ)
def BL(i:Nat)(ρ:MEnv)(k:List D->Option oq):Option oq:=match ρ[i]? with
 |some (some (.own (.lst ds)))=>k ds
 |_=>none
def bj(i:Nat)(e:ME):MC:=λρ=>BL i ρ λds=>jj (e ρ) λs=>if ds.length<lim then some (.next (ρ.set i (some (.own (.lst (ds++[s.val])))))) else none
def pL:D->Option (List D)
 |.lst ds=>some ds
 |.tup ds=>some ds
 |_=>none
def nH(i:Nat)(e:ME):MC:=λρ=>BL i ρ λds=>jj (e ρ) λs=>match pL s.val with
 |some es=>if ds.length+es.length<=lim then some (.next (ρ.set i (some (.own (.lst (ds++es)))))) else none
 |none=>none
def K6(n:Nat)(i:Int):Option Nat:=if 0<=i then(if i<n then some i.toNat else none) else if -(n:Int)<=i then some (i+n).toNat else none
def aW(j:Nat):MB:=λd ρ=>some (ρ.set j (some (.sh d)))
def Dv:List Nat->List D->MEnv->MEnv
 |j::js,d::ds,ρ=>Dv js ds (ρ.set j (some (.sh d)))
 |_,_,ρ=>ρ
def bTup(js:List Nat):MB:=λd ρ=>match d with
 |.tup ds=>if ds.length=js.length then some (Dv js ds ρ) else none
 |_=>none
def forD(bd:MB)(body:MC):List D->MEnv->Option oq
 |[],ρ=>some (.next ρ)
 |d::ds,ρ=>match bd d ρ with
  |none=>none
  |some ρ1=>match body ρ1 with
   |some (.next ρ2)=>forD bd body ds ρ2
   |some (.cont ρ2)=>forD bd body ds ρ2
   |some (.brk ρ2)=>some (.next ρ2)
   |o=>o
def mw(it:MI)(bd:MB)(body:MC):MC:=λρ=>match it ρ with
 |some (.ok ds)=>forD bd body ds ρ
 |some (.exc x)=>some (.exc x)
 |none=>none
def jf(e:ME):MI:=λρ=>match e ρ with
 |some (.ok s)=>(pL s.val).map .ok
 |some (.exc x)=>some (.exc x)
 |none=>none
def rng(lo hi:Int):List D:=(List.range (hi - lo).toNat).map λ(k:Nat)=>D.int (lo+k)
def gf(i:Int):Bool:=decide (-(2 ^ 62)<=i) && decide (i<2 ^ 62)
def vx(e:ME)(ρ:MEnv)(k:D->Option RI):Option RI:=match e ρ with
 |some (.ok s)=>k s.val
 |some (.exc x)=>some (.exc x)
 |none=>none
def dg(e:ME):MI:=λρ=>vx e ρ λx=>match x with
 |.int hi=>if gf hi=true then some (.ok (rng 0 hi)) else none
 |_=>none
def mj(a b:ME):MI:=λρ=>vx a ρ λx=>vx b ρ λy=>match x,y with
 |.int lo,.int hi=>if gf lo=true/\gf hi=true then some (.ok (rng lo hi)) else none
 |_,_=>none
def ko(bd:MB)(cond elt:ME)(ρ:MEnv):List D->List D->Option R
 |[],acc=>if acc.length<=lim then okL acc else none
 |d::ds,acc=>match bd d ρ with
  |none=>none
  |some ρ1=>bh (cond ρ1) λc=>asB c λt=>if t=true then bh (elt ρ1) λx=>ko bd cond elt ρ ds (acc++[x]) else ko bd cond elt ρ ds acc
def bI(js:List Nat)(ρ:MEnv):MEnv:=js.foldl (λρ j=>ρ.set j none) ρ
def cR(js:List Nat)(it:MI)(bd:MB)(cond elt:ME):ME:=λρ=>match it ρ with
 |some (.ok ds)=>if ds.length<=lim then ko bd cond elt (bI js ρ) ds [] else none
 |some (.exc x)=>some (.exc x)
 |none=>none
def eB(c:ME)(body:MC):Nat->MEnv->Option oq
 |0,_=>none
 |n+1,ρ=>jj (c ρ) λs=>asBO s.val λt=>if t=true then(match body ρ with
   |some (.next ρ2)=>eB c body n ρ2
   |some (.cont ρ2)=>eB c body n ρ2
   |some (.brk ρ2)=>some (.next ρ2)
   |o=>o) else some (.next ρ)
def qg(fuel:MEnv->Nat)(c:ME)(body:MC):MC:=λρ=>eB c body (fuel ρ) ρ
def cS(n:Nat)(ds:List D):MEnv:=ds.map (λd=>some (.sh d))++replicate (n - ds.length) none
def JO:Option oq->Option R
 |some (.ret s)=>some (.ok s)
 |some (.next _)=>okD .non
 |some (.exc x)=>some (.exc x)
 |_=>none
noncomputable def jl(np n:Nat)(g:MC):List D->Option R:=λds=>if ds.length=np then JO (g (cS n ds)) else none
def aK:D->D->Option R
 |.int i,.int j=>okI (i+j)
 |.str x,.str y=>if x.length+y.length<=lim then okD (.str (x++y)) else none
 |.tup xs,.tup ys=>if xs.length+ys.length<=lim then okD (.tup (xs++ys)) else none
 |.lst xs,.lst ys=>if xs.length+ys.length<=lim then okL (xs++ys) else none
 |_,_=>none
def kZ:D->D->Option R
 |.int i,.int j=>okI (i - j)
 |_,_=>none
def jJ(i:Int):Bool:=decide (-(2 ^ 64)<i) && decide (i<2 ^ 64)
def ip:D->D->Option R
 |.int i,.int j=>if(jJ i || jJ j)=true then okI (i * j) else none
 |_,_=>none
def Kf(ds:List D):D->Option R
 |.int k=>if -(2 ^ 60)<=k/\k<2 ^ 60/\ds.length * k.toNat<=lim then okL (replicate k.toNat ds).flatten else none
 |_=>none
def EV(a b:ME):ME:=λρ=>match a ρ with
 |some (.ok (.own (.lst ds)))=>bh (b ρ) (Kf ds)
 |some (.exc x)=>some (.exc x)
 |_=>none
def km:D->D->Option R
 |.int i,.int j=>if 0<j then okI (i % j) else none
 |_,_=>none
def p8:D->D->Option R
 |.int i,.int j=>if 0<j/\j<1073741824 then okI (i / j) else none
 |_,_=>none
def Kg(p:Int->Int->Bool):D->D->Option R
 |.int i,.int j=>okB (p i j)
 |_,_=>none
def Fk:=Kg λi j=>decide (i<j)
def sE:=Kg λi j=>decide (j<i)
def IM:D->D->Option Bool
 |.int i,.int j=>some (decide (i=j))
 |.str x,.str y=>some (decide (x=y))
 |.bl x,.bl y=>some (decide (x=y))
 |.non,.non=>some true
 |.non,.int _=>some false|.int _,.non=>some false|.non,.str _=>some false|.str _,.non=>some false|.non,.bl _=>some false|.bl _,.non=>some false
 |.int _,.str _=>some false|.str _,.int _=>some false|.bl _,.str _=>some false|.str _,.bl _=>some false
 |_,_=>none
def fM(x y:D):Option R:=match IM x y with
 |some b=>okB b
 |none=>none
def xQ(x y:D):Option R:=match IM x y with
 |some b=>okB (!b)
 |none=>none
def A6{α:Type}(xs:List α)(i:Int):Option α:=(K6 xs.length i).bind λj=>xs[j]?
def dIx:D->D->Option R
 |.tup ds,.int i=>(A6 ds i).bind okD
 |.lst ds,.int i=>(A6 ds i).bind okD
 |.str x,.int i=>if x.length<=lim then(A6 x.cps.toList i).bind λc=>okD (.str ⟨#[c]⟩) else none
 |_,_=>none
def cC:D->Option R
 |.tup ds=>okI ds.length
 |.lst ds=>okI ds.length
 |.str x=>if x.length<=lim then okI x.length else none
 |_=>none
def intsOf:List D->Option (List Int)
 |[]=>some []
 |.int i::r=>(intsOf r).map (i::·)
 |_::_=>none
def Gw:D->Option R
 |.lst ds=>(intsOf ds).bind λns=>okI ns.sum
 |_=>none
def eR:D->Option R
 |.lst ds=>okD (.tup ds)
 |.tup ds=>okD (.tup ds)
 |_=>none
def F0:D->Option R
 |.lst ds=>okL ds
 |.tup ds=>okL ds
 |_=>none
def lO:D->D->Option R
 |.int lo,.int hi=>if gf lo=true/\gf hi=true/\(hi - lo).toNat<=lim then okL (rng lo hi) else none
 |_,_=>none
def GX:D->String
 |.non => "NoneType" | .bl _ => "bool" | .int _ => "int" | .str _ => "str" | .tup _ => "tuple" | .lst _ => "list" | .obj c _ _=>c|.fn _ _ => "function"
def A0(T:String):D->Option R
 |.obj _ _ _=>none
 |.fn _ _=>none
 |d=>okB (GX d == T || (GX d == "bool" && T == "int"))
def f1(F:D->Option R):List D->Option R
 |[d]=>F d
 |_=>none
def f2(F:D->D->Option R):List D->Option R
 |[d,e]=>F d e
 |_=>none
def fo:ME:=eC (.bl true)
def oJ:D->D->Option R
 |.int i,.int j=>if 0<=j/\j<=1000000/\i.natAbs<2 ^ 64 then okI (i * 2 ^ j.toNat) else none
 |_,_=>none
def pq:D->D->Option R
 |.int i,.int j=>if 0<=j then okI (i / 2 ^ j.toNat) else none
 |_,_=>none
def kn:D->D->Option R
 |.int i,.int j=>if 0<=i/\0<=j then okI ((i.toNat &&& j.toNat:Nat):Int) else none
 |_,_=>none
def vA:D->D->Option R
 |.int i,.int j=>if 0<=i/\0<=j then okI ((i.toNat ||| j.toNat:Nat):Int) else none
 |_,_=>none
def CS:D->D->Option R
 |.int i,.int j=>if 0<=j/\j<=1000000/\i.natAbs<2 ^ 64 then okI (i ^ j.toNat) else none
 |_,_=>none
def IT:D->Option R
 |.int i=>okI (-i)
 |_=>none
def enumD:D->Option RI
 |.lst xs=>some (.ok ((List.range xs.length).zipWith (λ(i:Nat) d=>D.tup [.int i,d]) xs))
 |.tup xs=>some (.ok ((List.range xs.length).zipWith (λ(i:Nat) d=>D.tup [.int i,d]) xs))
 |_=>none
def xm(a:ME):MI:=λρ=>vx a ρ enumD
def jm(n d:Nat):Option Int->Nat
 |none=>d
 |some v=>if v<0 then(v+(n:Int)).toNat else min v.toNat n
def xT(ds:List D)(lo hi:Option Int):List D:=(ds.drop (jm ds.length 0 lo)).take (jm ds.length ds.length hi - jm ds.length 0 lo)
def lN(x:D)(lo hi:Option Int):Option R:=match x with
 |.tup ds=>if jm ds.length 0 lo=0/\jm ds.length ds.length hi=ds.length then none else okD (.tup (xT ds lo hi))
 |.lst ds=>okL (xT ds lo hi)
 |_=>none
def Au(o:Option ME)(ρ:MEnv)(k:Option Int->Option R):Option R:=match o with
 |none=>k none
 |some e=>bh (e ρ) λd=>match d with
  |.int i=>k (some i)
  |_=>none
def bx(e:ME)(lo hi:Option ME):ME:=λρ=>bh (e ρ) λx=>Au lo ρ λl=>Au hi ρ λh=>lN x l h
def oG(k:Int):List Int->List Int
 |[]=>[k]
 |x::r=>if k<x then k::x::r else if k=x then x::r else x::oG k r
def l8(ns:List Int):List Int:=ns.foldr oG []
def fewD(ns:List Int):Bool:=decide (ns.length<=4) && ns.all λn=>decide (0<=n) && decide (n<32)
def r9:D->Option R
 |.lst ds=>(intsOf ds).bind λns=>if fewD ns=true then okL ((l8 ns).map D.int) else none
 |_=>none
def vy(f:Str):List Str->List D->Option D
 |n::ns,d::ds=>if f == n then some d else vy f ns ds
 |_,_=>none
def o3(cs:List String)(f:Str):D->Option R
 |.obj c ns ds=>if cs.contains c=true then(vy f ns ds).bind okD else none
 |_=>none
def dC(m:Str)(tb:String->Option (List D->Option R))(o:ME)(as:List ME):ME:=λρ=>bh (o ρ) λx=>match x with
 |.obj c ns ds=>if ns.contains m=true then none else(match tb c with
  |some F=>cx as ρ λvs=>F (.obj c ns ds::vs)
  |none=>none)
 |_=>none
abbrev gn:=O->List D->Option O
abbrev MG:=MEnv->O->Option O
def cY:List ME->MEnv->Option (List D)
 |[],_=>some []
 |e::es,ρ=>match e ρ with
  |some (.ok s)=>(cY es ρ).map (s.val::·)
  |_=>none
def putN(f:Str):List Str->List Str
 |[]=>[f]
 |n::r=>if n=f then n::r else n::putN f r
def BC(f:Str)(d:D):List Str->List D->List D
 |[],_=>[d]
 |n::ns,x::ds=>if n=f then d::ds else x::BC f d ns ds
 |_::_,[]=>[]
def kU:MG:=λ_ o=>some o
def gj(g h:MG):MG:=λρ o=>(g ρ o).bind (h ρ)
def mF(cs:List String)(f:Str)(e:ME):MG:=λρ o=>match e ρ,o with
 |some (.ok s),.obj c ns ds=>if cs.contains c=true/\ns.length=ds.length/\ns.length<900 then some (.obj c (putN f ns) (BC f s.val ns ds)) else none
 |_,_=>none
def iw(F:gn)(as:List ME):MG:=λρ o=>(cY as ρ).bind (F o)
noncomputable def xE(np n:Nat)(g:MG):gn:=λo ds=>if ds.length+1=np then g (none::cS (n - 1) ds) o else none
def gu(c:String)(F:gn)(as:List ME):ME:=λρ=>cx as ρ λds=>match F (.obj c [] []) ds with
 |some o=>some (.ok (.own o))
 |none=>none
def tU:D->D->Option R
 |.str x,.int n=>if x.length=1/\(n=1\/n=2) then okD (.str (if n=1 then x else⟨x.cps++x.cps⟩)) else none
 |_,_=>none
def kl(f:D->D->Option Bool):List D->List D->Option Bool
 |[],[]=>some true
 |x::xs,y::ys=>(f x y).bind λb=>(kl f xs ys).bind λc=>some (b && c)
 |_,_=>some false
def sD:Nat->D->D->Option Bool
 |0,_,_=>none
 |_+1,.int i,.int j=>some (i == j)
 |_+1,.str x,.str y=>some (x == y)
 |n+1,.tup xs,.tup ys=>kl (sD n) xs ys
 |n+1,.lst xs,.lst ys=>if xs.length=ys.length then kl (sD n) xs ys else some false
 |_+1,_,_=>none
theorem nY(f:D->D->Option Bool):∀(xs ys:List D)(b:Bool),kl f xs ys=some b->b=((List.range (min xs.length ys.length)).all (λj=>((xs[j]?).bind λx=>(ys[j]?).bind λy=>f x y) == some true) && (xs.length == ys.length))
 |[],[],b,h=>by cases h;rfl
 |[],_::_,b,h=>by cases h;rfl
 |_::_,[],b,h=>by cases h;rfl
 |x::xs,y::ys,b,h=>by
  have h:(f x y).bind (λb=>(kl f xs ys).bind λc=>some (b && c))=some b:=h;cases h1:f x y with
  |none=>rw[h1] at h;cases h
  |some b1=>
   rw[h1] at h;cases h2:kl f xs ys with
   |none=>rw[h2] at h;cases h
   |some b2=>
    rw[h2] at h;cases h;rw[nY f xs ys b2 h2,length_cons,length_cons,Nat.succ_min_succ,List.range_succ_eq_map,List.all_cons,List.all_map];have e0:(((x::xs)[0]?).bind λx=>((y::ys)[0]?).bind λy=>f x y)=some b1:=h1;rw[e0];have e1:((xs.length+1 == ys.length+1):Bool)=(xs.length == ys.length):=by rw[Bool.eq_iff_iff,beq_iff_eq,beq_iff_eq];omega
    rw[e1];cases b1 with
    |true=>rfl
    |false=>rfl
theorem AI(f:D->D->Option Bool):∀(xs ys:List D)(b:Bool),kl f xs ys=some b->∀(j:Nat)(x y:D),xs[j]?=some x->ys[j]?=some y->∃c,f x y=some c
 |[],ys,b,h,j,x,y,hx,hy=>by cases hx
 |_::_,[],b,h,j,x,y,hx,hy=>by cases hy
 |x::xs,y::ys,b,h,j,x',y',hx,hy=>by
  have h:(f x y).bind (λb=>(kl f xs ys).bind λc=>some (b && c))=some b:=h;cases h1:f x y with
  |none=>rw[h1] at h;cases h
  |some b1=>
   rw[h1] at h;cases h2:kl f xs ys with
   |none=>rw[h2] at h;cases h
   |some b2=>
    cases j with
    |zero=>cases hx;cases hy;exact⟨b1,h1⟩
    |succ j=>exact AI f xs ys b2 h2 j x' y' hx hy
end L3
namespace L3
end L3
namespace L3
open PySem
abbrev Tb:=List (List Int×Int)
def c7(kvs:Tb)(k:List Int):Option Int:=(kvs.find? λp=>decide (p.1=k)).map (·.2)
def yE(kvs:Tb)(k:List Int)(v:Int):Tb:=
 if(kvs.any λp=>decide (p.1=k))=true then kvs.map (λp=>if p.1=k then(p.1,v) else p) else kvs++[(k,v)]
def kT(r:Option R):Option (List Int):=match r with
 |some (.ok (.sh (.tup ds)))=>intsOf ds
 |_=>none
def GM(i:Nat):MC:=λρ=>some (.next (ρ.set i (some (.own (.dic [])))))
def pC(r:Option R):Option Int:=match r with
 |some (.ok (.sh (.int v)))=>some v
 |_=>none
theorem mV:∀{ds:List D}{ks:List Int},intsOf ds=some ks->ds=ks.map D.int
 |[],ks,h=>by cases h;rfl
 |.int i::r,ks,h=>by
  have h:(intsOf r).map (i::·)=some ks:=h;cases e:intsOf r with
  |none=>rw[e] at h;cases h
  |some l=>rw[e] at h;cases h;rw[mV e];rfl
 |.non::_,_,h=>by cases h
 |.bl _::_,_,h=>by cases h
 |.str _::_,_,h=>by cases h
 |.tup _::_,_,h=>by cases h
 |.lst _::_,_,h=>by cases h
 |.fn _ _::_,_,h=>by cases h
 |.obj _ _ _::_,_,h=>by cases h
theorem mT{r:Option R}{ks:List Int}(h:kT r=some ks):r=okD (.tup (ks.map D.int)):=by
 unfold kT at h;split at h
 ·rw[mV h]
 ·cases h
theorem ua{r:Option R}{v:Int}(h:pC r=some v):r=okI v:=by
 unfold pC at h;split at h
 ·cases h;rfl
 ·cases h
theorem kO(ks:List Int):kT (okD (.tup (ks.map D.int)))=some ks:=by
 show intsOf (ks.map D.int)=some ks
 induction ks with
 |nil=>rfl
 |cons a l ih=>show(intsOf (l.map D.int)).map (a::·)=_;rw[ih];rfl
end L3
namespace L3
mutual
def zc:D->Bool
 |.fn _ _=>false
 |.tup ds=>qM ds
 |.lst ds=>qM ds
 |.obj _ _ ds=>qM ds
 |.non=>true
 |.bl _=>true
 |.int _=>true
 |.str _=>true
def qM:List D->Bool
 |[]=>true
 |d::ds=>zc d && qM ds
end
abbrev LF:=MEnv->Option D
end L3
namespace L3
end L3
namespace L3
open PySem
def O.core:O->O
 |.par _ o=>o
 |o=>o
def O.put:O->O->O
 |.par a _,o'=>.par a o'
 |_,o'=>o'
abbrev MF:=O->List D->List D->Option (D×O)
def ky(n a:Nat)(o:O)(ds es:List D):MEnv:=(cS n (ds++.non::es)).set ds.length (some (.own (.par a o)))
def uK(j a:Nat):Option oq->Option (D×O)
 |some (.ret (.two d b o))=>if b=a then some (d,o) else none
 |some (.next ρ)=>match ρ[j]? with
  |some (some (.own (.par b o)))=>if b=a then some (.non,o) else none
  |_=>none
 |_=>none
open Classical in
noncomputable def CL(j np n:Nat)(g:MC):MF:=λo ds es=>if ds.length=j/\j+1+es.length=np then(if h:∃r,∀a,uK j a (g (ky n a o ds es))=some r then some h.choose else none) else none
theorem xD{j np n:Nat}{g:MC}{o:O}{ds es:List D}{r:D×O}(h:CL j np n g o ds es=some r):ds.length=j/\j+1+es.length=np/\∀a,uK j a (g (ky n a o ds es))=some r:=by
 unfold CL at h;split at h
 ·rename_i c;split at h
  ·rename_i x;cases h;exact⟨c.1,c.2,x.choose_spec⟩
  ·cases h
 ·cases h
theorem ER{j np n:Nat}{g:MC}{o:O}{ds es:List D}{r:D×O}(h1:ds.length=j)(h2:j+1+es.length=np)(h:∀a,uK j a (g (ky n a o ds es))=some r):CL j np n g o ds es=some r:=by
 unfold CL;rw[if_pos ⟨h1,h2⟩];have x:∃r,∀a,uK j a (g (ky n a o ds es))=some r:=⟨r,h⟩;rw[dif_pos x,←h 0,x.choose_spec 0]
abbrev MP:=MEnv->Option (D×MEnv)
def ir(i:Nat)(F:MF)(gs hs:List ME):MP:=λρ=>match ρ[i]? with
 |some (some (.own o))=>(cY gs ρ).bind λds=>(cY hs ρ).bind λes=>(F o.core ds es).map λp=>(p.1,ρ.set i (some (.own (o.put p.2))))
 |_=>none
def vo(f:D->D->Option R)(g:MP)(h:ME):MP:=λρ=>(g ρ).bind λp=>match h p.2 with
 |some (.ok s)=>(match f p.1 s.val with
  |some (.ok t)=>some (t.val,p.2)
  |_=>none)
 |_=>none
def mC(i:Nat)(g:MP):MC:=λρ=>(g ρ).map λp=>.next (p.2.set i (some (.sh p.1)))
def wc(j:Nat)(e:ME):MC:=λρ=>jj (e ρ) λs=>match ρ[j]? with
 |some (some (.own (.par a o)))=>some (.ret (.two s.val a o))
 |_=>none
def o4(js:List Nat)(bd:MB)(elt:MP):List D->MEnv->Option (List D×MEnv)
 |[],ρ=>some ([],ρ)
 |d::ds,ρ=>match bd d ρ with
  |none=>none
  |some ρ1=>(elt ρ1).bind λp=>(o4 js bd elt ds (bI js p.2)).map λq=>(p.1::q.1,q.2)
def A1(js:List Nat)(ρ:MEnv):Bool:=js.all λj=>match ρ[j]? with
 |some (some _)=>false
 |_=>true
theorem o5:∀(js:List Nat)(ρ:MEnv),A1 js ρ=true->bI js ρ=ρ
 |[],ρ,_=>rfl
 |j::js,ρ,h=>by
  have h1:ρ.set j none=ρ:=by
   have:=(all_eq_true.mp h) j mem_cons_self;refine ext_getElem? λk=>?_;by_cases hk:j=k
   ·subst hk;by_cases hl:j<ρ.length
    ·rw[getElem?_set_self hl];rw[getElem?_eq_getElem hl] at this ⊢;cases z:ρ[j] with
     |none=>rfl
     |some s=>rw[z] at this;cases this
    ·rw[getElem?_eq_none (by rw[length_set];omega),getElem?_eq_none (by omega)]
   ·rw[getElem?_set_ne hk]
  have h2:A1 js ρ=true:=all_eq_true.mpr λx hx=>(all_eq_true.mp h) x (mem_cons_of_mem _ hx);show bI js (ρ.set j none)=ρ;rw[h1];exact o5 js ρ h2
def p3(js:List Nat)(it:MI)(bd:MB)(elt:MP):MP:=λρ=>match it ρ with
 |some (.ok ds)=>if ds.length<=lim/\A1 js ρ=true then(o4 js bd elt ds ρ).map λp=>(.lst p.1,p.2) else none
 |_=>none
def iy(i:Nat)(ρ:MEnv):Option (O×Tb):=match ρ[i]? with
 |some (some (.own o))=>(match o.core with
  |.dic kvs=>some (o,kvs)
  |_=>none)
 |_=>none
theorem jh{i:Nat}{ρ:MEnv}{o:O}{kvs:Tb}(h:iy i ρ=some (o,kvs)):ρ[i]?=some (some (.own o))/\o.core=.dic kvs:=by
 unfold iy at h;split at h
 ·rename_i u hu;split at h
  ·rename_i k hk;cases h;exact⟨hu,hk⟩
  ·cases h
 ·cases h
def D9(i:Nat)(g:ME):ME:=λρ=>(iy i ρ).bind λp=>(kT (g ρ)).bind λk=>(c7 p.2 k).bind okI
def zV(neg:Bool)(i:Nat)(g:ME):ME:=λρ=>(iy i ρ).bind λp=>(kT (g ρ)).bind λk=>okB (neg != (c7 p.2 k).isSome)
def sV(i:Nat)(gk ge:ME):MC:=λρ=>(pC (ge ρ)).bind λv=>(iy i ρ).bind λp=>(kT (gk ρ)).bind λk=>if p.2.length<lim then some (.next (ρ.set i (some (.own (p.1.put (.dic (yE p.2 k v))))))) else none
def jM(z:Int):List Int->Int
 |[]=>z
 |[n]=>n
 |n::r=>max n (jM z r)
theorem mi(z:Int):∀ns:List Int,ns≠[]->jM z ns∈ns/\∀a∈ns,a<=jM z ns
 |[],h=>absurd rfl h
 |[n],_=>⟨mem_singleton.mpr rfl,λa ha=>by rw[mem_singleton.mp ha];exact Int.le_refl _⟩
 |n::m::r,_=>by
  obtain⟨h1,h2⟩:=mi z (m::r) (List.cons_ne_nil _ _);show max n (jM z (m::r))∈_/\∀a∈n::m::r,a<=max n (jM z (m::r));refine⟨?_,λa ha=>?_⟩
  ·rcases Int.le_total n (jM z (m::r)) with h|h
   ·rw[Int.max_eq_right h];exact mem_cons_of_mem _ h1
   ·rw[Int.max_eq_left h];exact mem_cons_self
  ·rcases mem_cons.mp ha with rfl|ha
   ·exact Int.le_max_left _ _
   ·exact Int.le_trans (h2 a ha) (Int.le_max_right _ _)
def rf(z:Int):D->Option R
 |.lst ds=>(intsOf ds).bind λns=>okI (jM z ns)
 |_=>none
def ra:D->Option R
 |.int i=>if gf i=true/\i.toNat<=lim then okL (rng 0 i) else none
 |_=>none
def yB:MC:=λ_=>none
abbrev Td:=List (D×D)
noncomputable section
def Ha(kvs:Td)(k:D):Option D:=(kvs.find? λp=>decide (p.1=k)).map (·.2)
theorem getD_none{kvs:Td}{k:D}(h:∀p∈kvs,p.1≠k):Ha kvs k=none:=by
 unfold Ha;rw[List.find?_eq_none.mpr λp hp=>by simpa using h p hp];rfl
end
def iu(gb:ME)(o:O)(d:D):Option Int:=match gb [some (.sh d),some (.own o)] with
 |some (.ok (.sh (.int n)))=>some n
 |_=>none
def qw(k:D->Option Int):D->Int->List D->Option D
 |b,_,[]=>some b
 |b,m,d::r=>match k d with
  |some n=>if n > m then qw k d n r else qw k b m r
  |none=>none
def wZ(k:D->Option Int):List D->Option D
 |[]=>none
 |d::r=>match k d with
  |some n=>qw k d n r
  |none=>none
def xO(i:Nat)(ga gb:ME):ME:=λρ=>bh (ga ρ) λd=>match d,ρ[i]? with
 |.lst ds,some (some (.own o))=>(wZ (iu gb o) ds).bind okD
 |_,_=>none
theorem mP{k:D->Option Int}{kf:Nat->Int}{ds:List D}(hkf:∀j x n,ds[j]?=some x->k x=some n->kf j=n):
  ∀(rest:List D)(p i:Nat)(b:D)(m:Int)(d:D),ds.drop p=rest->ds[i]?=some b->kf i=m->i<p->(∀j,j<p->kf i ≥ kf j/\(j<i->kf i > kf j))->qw k b m rest=some d->
   (∀x∈rest,∃n,k x=some n)/\∃i',ds[i']?=some d/\∀j,j<ds.length->kf i' ≥ kf j/\(j<i'->kf i' > kf j)
 |[],p,i,b,m,d,hd,hb,hm,hi,hbest,e=>by
  cases e;have:ds.length<=p:=by have:=congrArg List.length hd;rw[length_drop] at this;simp at this;omega
  exact⟨λx hx=>(nomatch hx),i,hb,λj hj=>hbest j (by omega)⟩
 |x::rest,p,i,b,m,d,hd,hb,hm,hi,hbest,e=>by
  have hp:ds[p]?=some x:=by
   have:=congrArg (·[0]?) hd;simpa using this
  have hd':ds.drop (p+1)=rest:=by rw[←List.drop_drop,hd];rfl
  unfold qw at e;cases hx:k x with
  |none=>rw[hx] at e;cases e
  |some n=>
   rw[hx] at e;have hn:=hkf p x n hp hx;dsimp only at e;split at e
   ·rename_i hgt;obtain⟨h1,h2⟩:=mP hkf rest (p+1) p x n d hd' hp hn (by omega) (λj hj=>by
     by_cases ej:j=p
     ·subst ej;exact⟨Int.le_refl _,λz=>absurd z (lt_irrefl _)⟩
     ·have:=(hbest j (by omega)).1
      exact⟨by omega,λ_=>by omega⟩) e
    refine⟨λy hy=>?_,h2⟩;rcases mem_cons.mp hy with rfl|hy
    ·exact⟨n,hx⟩
    ·exact h1 y hy
   ·rename_i hgt;obtain⟨h1,h2⟩:=mP hkf rest (p+1) i b m d hd' hb hm (by omega) (λj hj=>by
     by_cases ej:j=p
     ·subst ej;exact⟨by omega,λz=>by omega⟩
     ·exact hbest j (by omega)) e
    refine⟨λy hy=>?_,h2⟩;rcases mem_cons.mp hy with rfl|hy
    ·exact⟨n,hx⟩
    ·exact h1 y hy
theorem Ci{k:D->Option Int}{ds:List D}{d:D}(h:wZ k ds=some d):0<ds.length/\(∀x∈ds,∃n,k x=some n)/\∀kf:Nat->Int,(∀j x n,ds[j]?=some x->k x=some n->kf j=n)->∀i,i<ds.length->(∀j,j<ds.length->kf i ≥ kf j/\(j<i->kf i > kf j))->ds[i]?=some d:=by
 cases ds with
 |nil=>cases h
 |cons x r=>
  unfold wZ at h;dsimp only at h;cases hx:k x with
  |none=>rw[hx] at h;cases h
  |some n=>
   rw[hx] at h;have sp:=λ(kf:Nat->Int)(hkf:∀j y m,(x::r)[j]?=some y->k y=some m->kf j=m)=>mP (ds:=x::r) hkf r 1 0 x n d rfl rfl (hkf 0 x n rfl hx) (by omega) (λj hj=>by
    have:j=0:=by omega
    subst this;exact⟨Int.le_refl _,λz=>absurd z (lt_irrefl _)⟩) h
   have a:=(sp (λj=>(((x::r)[j]?).bind k).getD 0) (λj y m e1 e2=>by rw[e1];show(k y).getD 0=m;rw[e2];rfl)).1
   refine⟨by simp,λy hy=>?_,λkf hkf i hi hbest=>?_⟩
   ·rcases mem_cons.mp hy with rfl|hy
    ·exact⟨n,hx⟩
    ·exact a y hy
   ·obtain⟨_,i',h1,h2⟩:=sp kf hkf;have hi':i'<(x::r).length:=(List.getElem?_eq_some_iff.mp h1).1;rcases Nat.lt_trichotomy i i' with z|z|z
    ·have:=(h2 i hi).2 z;have:=(hbest i' hi').1;omega
    ·rw[z];exact h1
    ·have:=(hbest i' hi').2 z;have:=(h2 i hi).1;omega
def ka:List Int->List Int
 |[]=>[]
 |k::r=>if k∈r then ka r else k::ka r
theorem dJ{n:Int}:∀{ns:List Int},n∈ka ns↔n∈ns
 |[]=>Iff.rfl
 |k::r=>by
  unfold ka;split
  ·rename_i h;rw[dJ,mem_cons];exact⟨.inr,λz=>z.elim (λe=>e▸h) id⟩
  ·rw[mem_cons,mem_cons,dJ]
theorem gD:∀{ns:List Int},(ka ns).Nodup
 |[]=>.nil
 |k::r=>by
  unfold ka;split
  ·exact gD
  ·rename_i h;exact nodup_cons.mpr ⟨λz=>h (dJ.mp z),gD⟩
def vz:D->Option R
 |.lst ds=>(intsOf ds).bind λns=>if ns.length<=32 then okI (ka ns).length else none
 |_=>none
def r6(i:Nat)(F:MF)(gs hs:List ME):ME:=λρ=>(ir i F gs hs ρ).bind λp=>(iy i ρ).bind λc=>(iy i p.2).bind λc'=>if c.2=c'.2 then okD p.1 else none
def CT(n:Nat):D->D->Option R
 |.tup xs,.tup ys=>(kl (sD n) xs ys).bind λb=>okB (!b)
 |_,_=>none
end L3
namespace L2
open PySem PySem.Spec PyProof.Rows
section
variable{X:Cx}{tg:Expr}
def LB(K:Frag)(tl:TE):TI:=λσ H R=>tl σ H λx H1=>∃a,x=.ref a/\(((∃xs,kY K H1 a xs)/\R (Lg K a) H1)\/((∃xs,nh K H1 a xs)/\R (Lf K a) H1))
theorem HI{l:Expr}{tl:TE}(hl:PE X l tl):PI X tg l (LB X.K tl):=by
 intro pins s σ H R I h;refine dA (hl pins s σ H _ I h) λv s1 ⟨x,H1,I1,r1,a,e,q1⟩=>?_;subst e;cases r1;have f1:∀b∈[s1.heap.objs.size],FpOk X pins H1 b:=λb hb=>by
  rw[mem_singleton.mp hb];exact I1.fpOk (le_refl _) (I1.hok.fresh (le_refl _))
 rcases q1 with⟨⟨xs,hq⟩,q⟩|⟨⟨xs,hq⟩,q⟩
 ·obtain⟨its,rv,p,hz⟩:=I1.list hq;exact wpAny_pyIter_list p.isList ⟨s1.heap.objs.size,[s1.heap.objs.size],_,_,H1,rfl,I1.kept (t':=s1.toks) (λb o e=>get?_push_of_some _ e),Ba a _,⟨_,get?_push_size _ rfl,rfl,rfl⟩,f1,q⟩
 ·obtain⟨its,rv,p,hz⟩:=I1.tuple hq;exact wpAny_pyIter_tuple (show s1.heap.IsTuple a its.toArray from p) ⟨s1.heap.objs.size,[s1.heap.objs.size],_,_,H1,rfl,I1.kept (t':=s1.toks) (λb o e=>get?_push_of_some _ e),yi a _,⟨_,get?_push_size _ rfl,rfl,rfl⟩,f1,q⟩
end
def vE(scope:Scope)(env:PySem.Env):List (Str×Addr):=scope.names.foldl (λcs x=>if x.2 == .free then(x.1,(env.cells.lookup x.1).getD 0)::cs else cs) []
def dh(sc psc:Scope)(vars:List Str):Bool:=
 (sc.kind == .function) && sc.names.all λy=>(sc.names.lookup y.1 == some y.2) && (match y.2 with
  |.local=>vars.contains y.1
  |.cell=>false
  |.free=>psc.names.lookup y.1 == some .cell || psc.names.lookup y.1 == some .free
  |_=>true)
def jn(N vars:List Str)(js:List Nat):Bool:=(List.range N.length).all λi=>js.contains i || !(vars.contains (N.getD i (Str.ofString "")))
def fB(js:List Nat)(σ:St):St:=js.foldl (λσ j=>σ.set j none) σ
theorem gm(js:List Nat):∀σ:St,(fB js σ).length=σ.length:=by
 induction js with
 |nil=>intro σ;rfl
 |cons j js ih=>intro σ;show(fB js (σ.set j none)).length=_;rw[ih,length_set]
theorem xA(js:List Nat):∀(σ:St)(i:Nat)(v:V),(fB js σ)[i]?=some (some v)->i∉js/\σ[i]?=some (some v):=by
 induction js with
 |nil=>intro σ i v h;exact⟨by simp,h⟩
 |cons j js ih=>
  intro σ i v h;obtain⟨h1,h2⟩:=ih (σ.set j none) i v h;by_cases hj:j=i
  ·subst hj;by_cases hl:j<σ.length
   ·rw[getElem?_set_self hl] at h2;cases h2
   ·rw[getElem?_eq_none (by rw[length_set];omega)] at h2;cases h2
  ·rw[getElem?_set_ne hj] at h2;exact⟨by simp[h1,Ne.symm hj],h2⟩
section
variable{sc psc:Scope}{vars:List Str}
theorem o6(h:dh sc psc vars=true):sc.kind=.function:=by
 unfold dh at h;exact eq_of_beq (Bool.and_eq_true_iff.mp h).1
theorem mY(h:dh sc psc vars=true):∀y∈sc.names,sc.names.lookup y.1=some y.2/\(y.2=.local->y.1∈vars)/\y.2≠.cell/\(y.2=.free->psc.names.lookup y.1=some .cell\/psc.names.lookup y.1=some .free):=by
 intro y hy;unfold dh at h;have h2:=all_eq_true.mp (Bool.and_eq_true_iff.mp h).2 y hy;obtain⟨h3,h4⟩:=Bool.and_eq_true_iff.mp h2;refine⟨eq_of_beq h3,λe=>?_,λe=>?_,λe=>?_⟩
 ·rw[e] at h4;exact List.contains_iff_mem.mp h4
 ·rw[e] at h4;cases h4
 ·rw[e] at h4;rcases Bool.or_eq_true_iff.mp h4 with z|z
  ·exact .inl (eq_of_beq z)
  ·exact .inr (eq_of_beq z)
theorem fK{α β:Type}[BEq α][LawfulBEq α]:∀{l:List (α×β)}{x:α}{v:β},l.lookup x=some v->(x,v)∈l
 |[],_,_,h=>by cases h
 | (y,w)::l,x,v,h=>by
  rw[lookup_cons] at h;cases hb:x == y with
  |true=>
   rw[hb] at h;cases h;rw[eq_of_beq hb];exact mem_cons_self
  |false=>
   rw[hb] at h;exact mem_cons_of_mem _ (fK h)
end
theorem Gx(scope:Scope)(env:PySem.Env):∀(l:List (Str×NameKind))(acc:List (Str×Addr)),(∀p∈acc,env.cells.lookup p.1=some p.2)->(∀y∈l,y.2=.free->∃c,env.cells.lookup y.1=some c)->
  ∀p∈l.foldl (λcs x=>if x.2 == .free then(x.1,(env.cells.lookup x.1).getD 0)::cs else cs) acc,env.cells.lookup p.1=some p.2:=by
 intro l
 induction l with
 |nil=>intro acc h _;exact h
 |cons y l ih=>
  intro acc h hf;rw[foldl_cons];refine ih _ ?_ λz hz=>hf z (mem_cons_of_mem _ hz);split
  ·rename_i hb;intro p hp;rcases mem_cons.mp hp with e|hp
   ·obtain⟨c,hc⟩:=hf y mem_cons_self (eq_of_beq hb);rw[e,hc];rfl
   ·exact h p hp
  ·exact h
theorem F9(scope:Scope)(env:PySem.Env):∀(l:List (Str×NameKind))(acc:List (Str×Addr))(x:Str),((x,NameKind.free)∈l\/∃c,(x,c)∈acc)->
  ∃c,(x,c)∈l.foldl (λcs x=>if x.2 == .free then(x.1,(env.cells.lookup x.1).getD 0)::cs else cs) acc:=by
 intro l
 induction l with
 |nil=>
  intro acc x h;rcases h with h|h
  ·cases h
  ·exact h
 |cons y l ih=>
  intro acc x h;rw[foldl_cons];refine ih _ x ?_;rcases h with h|⟨c,h⟩
  ·rcases mem_cons.mp h with e|h
   ·subst e;exact .inr ⟨_,by rw[if_pos (by rfl)];exact mem_cons_self⟩
   ·exact .inl h
  ·refine .inr ⟨c,?_⟩;split
   ·exact mem_cons_of_mem _ h
   ·exact h
theorem mH{scope:Scope}{env:PySem.Env}(hf:∀y∈scope.names,y.2=.free->∃c,env.cells.lookup y.1=some c):closureFor scope env=pure (vE scope env):=by
 have go:∀(l:List (Str×NameKind))(acc:List (Str×Addr)),(∀y∈l,y.2=.free->∃c,env.cells.lookup y.1=some c)->
   (forIn l acc λx cs=>do
    if x.2 == .free then pure (ForInStep.yield ((x.1,←cellOf env x.1)::cs)) else pure (ForInStep.yield cs):Sem (List (Str×Addr)))=
   pure (l.foldl (λcs x=>if x.2 == .free then(x.1,(env.cells.lookup x.1).getD 0)::cs else cs) acc):=by
  intro l
  induction l with
  |nil=>intro acc _;rfl
  |cons y l ih=>
   intro acc h;rw[List.forIn_cons,foldl_cons];cases hb:y.2 == NameKind.free with
   |true=>
    obtain⟨c,hc⟩:=h y mem_cons_self (eq_of_beq hb);have e1:cellOf env y.1=pure c:=by unfold cellOf;rw[hc]
    simp only[if_true,e1,pure_bind,hc,Option.getD_some];exact ih _ λz hz=>h z (mem_cons_of_mem _ hz)
   |false=>
    simp only[Bool.false_eq_true,if_false,pure_bind];exact ih _ λz hz=>h z (mem_cons_of_mem _ hz)
 have:=go scope.names [] hf;unfold closureFor;simpa [vE] using this
def cZ(X:Cx)(scope:Scope)(fp:List Addr)(s:Shared)(H:Hp)(C:Addr):Cx:=
 {X with s₀:=s,H₀:=H,env:=compEnvC scope (vE scope X.env) C X.env,outer:=X.stack,ex:=fp,fn:=λ_=>false,pn:=[],xe:=λ_ _=>False}
theorem p5(f:Str->NameKind->NameKind):∀(l:List (Str×NameKind))(x:Str),(l.map λy=>(y.1,f y.1 y.2)).lookup x=(l.lookup x).map (f x)
 |[],_=>rfl
 | (n,k)::l,x=>by
  rw[map_cons,lookup_cons,lookup_cons];cases hb:x == n with
  |true=>rw[eq_of_beq hb];rfl
  |false=>exact p5 f l x
theorem lq(scope:Scope)(env:PySem.Env)(x:Str):(relabel scope env).names.lookup x=(scope.names.lookup x).map λk=>if(k == NameKind.free && env.scope.kind == .function && env.kindOf x == some .cell)=true then NameKind.cell else k:=by
 rw[←p5 (λn k=>if(k == NameKind.free && env.scope.kind == .function && env.kindOf n == some .cell)=true then NameKind.cell else k)];unfold relabel;dsimp only;congr 1;refine map_congr_left λy _=>?_;obtain⟨n,k⟩:=y;dsimp only;split <;> rfl
theorem kK{scope psc:Scope}{env:PySem.Env}{vars:List Str}{x:Str}(hc:dh scope psc vars=true)(h:(relabel scope env).names.lookup x=some .cell\/(relabel scope env).names.lookup x=some .free):scope.names.lookup x=some .free:=by
 rw[lq] at h;cases hl:scope.names.lookup x with
 |none=>rw[hl] at h;simp at h
 |some k=>
  obtain⟨_,h2,h3,_⟩:=mY hc _ (fK hl);rw[hl] at h;cases k with
  |free=>rfl
  |cell=>exact absurd rfl h3
  |_=>simp at h
theorem wm{scope psc:Scope}{env:PySem.Env}{vars:List Str}{x:Str}(hc:dh scope psc vars=true)(h:Ki (relabel scope env) x):
  (x∈vars)\/(scope.names.lookup x=some .free/\((relabel scope env).names.lookup x=some .cell\/(relabel scope env).names.lookup x=some .free)):=by
 rcases h with h|h|h
 ·rw[lq] at h;cases hl:scope.names.lookup x with
  |none=>rw[hl] at h;simp at h
  |some k=>
   obtain⟨_,h2,h3,_⟩:=mY hc _ (fK hl);rw[hl] at h;cases k with
   |«local»=>exact .inl (h2 rfl)
   |cell=>exact absurd rfl h3
   |free=>
    simp only[Option.map_some] at h;split at h <;> simp at h
   |_=>simp at h
 ·exact .inr ⟨kK hc (.inl h),.inl h⟩
 ·exact .inr ⟨kK hc (.inr h),.inr h⟩
theorem xV{scope psc:Scope}{env:PySem.Env}{vars:List Str}(hc:dh scope psc vars=true)(hf:∀y∈scope.names,y.2=.free->∃c,env.cells.lookup y.1=some c):
  (∀x c,(vE scope env).lookup x=some c->env.cells.lookup x=some c)/\∀x,scope.names.lookup x=some .free->∃c,(vE scope env).lookup x=some c/\env.cells.lookup x=some c:=by
 have h1:∀x c,(vE scope env).lookup x=some c->env.cells.lookup x=some c:=λx c e=>Gx scope env scope.names [] (λ_ z=>nomatch z) hf (x,c) (fK e)
 refine⟨h1,λx e=>?_⟩;obtain⟨c,hm⟩:=F9 scope env scope.names [] x (.inl (fK e));cases q:(vE scope env).lookup x with
 |some d=>exact⟨d,rfl,h1 x d q⟩
 |none=>
  have:=List.lookup_eq_none_iff.mp q _ hm;simp at this
section
variable{X:Cx}{pins:List (Addr×Obj)}{σ:St}{H:Hp}{s:Shared}{scope:Scope}{vars:List Str}{js:List Nat}{fp:List Addr}{C:Addr}{h₁:Heap}{tk:Nat}
theorem oK(I:aC X pins σ H s)(hc:dh scope X.env.scope vars=true):∀y∈scope.names,y.2=.free->∃c,X.env.cells.lookup y.1=some c:=λy hy e=>by
 obtain⟨_,_,_,h⟩:=mY hc y hy;exact I.ok.has y.1 (h e)
theorem EA(I:aC X pins σ H s)(hc:dh scope X.env.scope vars=true)(hj:jn X.N vars js=true)(hC:C=s.heap.objs.size)(hfp:∀b∈fp,FpOk X pins H b)(hfo:∀b∈fp,b<s.heap.objs.size)
  {m:Str->Option Value} (hns:h₁.Ns C m) (keep:∀b o,s.heap.get? b=some o->h₁.get? b=some o):
  aC (cZ X scope fp s H C) [] (fB js σ) H {s with heap:=h₁,toks:=tk}:=by
 have hf:=oK I hc;obtain⟨cl1,cl2⟩:=xV hc hf;have ok:(cZ X scope fp s H C).Ok:=by
  refine⟨I.ok.mod,?_,I.ok.glob,I.ok.blt,le_of_eq hC.symm,λx y c h1 h2=>I.ok.inj x y c (cl1 x c h1) (cl1 y c h2),λx hx=>?_,(λx c z=>nomatch z),I.ok.hd,I.ok.frames,Or.inl rfl,λb hb=>?_,I.bs,le_trans I.ok.bsz I.sz,λb o e hb=>?_,λb hb z=>?_,I.stack,I.stkFree⟩
  ·show scope.kind=.function;exact o6 hc
  ·obtain⟨c,z,_⟩:=cl2 x (kK hc hx);exact⟨c,z⟩
  ·obtain⟨_,_,_,_,f4,_⟩:=hfp b hb;refine⟨λz=>?_,λx c e=>f4 x c (cl1 x c e)⟩;have h1:=hfo b hb;have h2:b=C:=z;rw[h2,hC] at h1;exact lt_irrefl _ h1
  ·obtain⟨_,_,_,f3,_⟩:=hfp b hb;rcases f3 with z|z
   ·exact I.ok.noex b o e z
   ·exact absurd (lt_of_lt_of_le (lt_size (I.ok.bs b o e).1) z) (lt_irrefl _)
  ·obtain⟨_,f1,f2,_⟩:=hfp b hb;rcases mem_cons.mp (I.stkSub b z) with e|e
   ·exact f1 e
   ·exact f2 e
 refine⟨ok,rfl,I.bare,Un.kept keep,⟨m,hns,λi x v e1 e2 e3=>?_⟩,λx c e=>?_,?_,λx c e=>I.freeC x c (cl1 x c e),(λp hp=>nomatch hp),I.hok.kept keep,?_⟩
 ·obtain⟨nj,e2⟩:=xA js σ i v e2;rcases wm hc e3 with hm|⟨ef,hk⟩
  ·exfalso;have hi:i<X.N.length:=(List.getElem?_eq_some_iff.mp e1).1;have hq:=all_eq_true.mp hj i (mem_range.mpr hi);rcases Bool.or_eq_true_iff.mp hq with z|z
   ·exact nj (List.contains_iff_mem.mp z)
   ·rw[getD_eq_getElem?_getD,show X.N[i]?=some x from e1] at z;have hm':vars.contains x=true:=List.contains_iff_mem.mpr hm;rw[Option.getD_some,hm'] at z;cases z
  ·obtain⟨c,z1,z2⟩:=cl2 x ef;obtain⟨m0,_,hl⟩:=I.loc;obtain⟨_,_,_,hp⟩:=mY hc _ (fK ef);have hv:Ki X.env.scope x:=(hp rfl).elim (λz=>.inr (.inl z)) λz=>.inr (.inr z);obtain⟨u,r,l⟩:=hl i x v e1 e2 hv;refine⟨u,r,.inr ⟨hk,c,z1,?_⟩⟩;rcases l with⟨k,_⟩|⟨_,c',e,q⟩
   ·have k':X.env.scope.names.lookup x=some .local:=k;rcases hp rfl with z|z
    ·have z':X.env.scope.names.lookup x=some .cell:=z;rw[k'] at z';cases z'
    ·have z':X.env.scope.names.lookup x=some .free:=z;rw[k'] at z';cases z'
   ·rw[z2] at e;cases e;obtain⟨o,ho,hd⟩:=q;exact⟨o,keep _ o ho,hd⟩
 ·obtain⟨v,o,ho,hd⟩:=I.cell x c (cl1 x c e);exact⟨v,o,keep _ o ho,hd⟩
 ·exact I.hok.fresh (le_of_eq hC.symm)
 ·rw[gm];exact I.len
end
abbrev Fl:Value->Shared->Prop:=λ_ _=>False
theorem fl{α:Type}{M:Model}{A:Around}{t:Sem α}{Q Q':α->Shared->Prop}{E:Value->Shared->Prop}{s:Shared}(h:wpAny M A t Q Fl s)(k:∀a s,Q a s->Q' a s):wpAny M A t Q' E s:=wpAny_mono h k λ_ _ z=>z.elim
def AU(ifs:List Expr)(env:PySem.Env):Sem Bool:=forIn ifs true λc r=>if r=true then do let ok ←isTrue c env (eval c env);pure (ForInStep.yield ok) else pure (ForInStep.yield r)
theorem CU{prog:Program}{w:World}{A:Around}{R:Result->Shared->Prop}{s:Shared}{elt target iter:Expr}{ifs:List Expr}{scope:Scope}{pos:Pos}{it acc:Value}{env:PySem.Env}(Iv:Nat->Shared->Prop)
  (turn:∀n s,Iv n s->wpAny (model prog w) A (pyNext it) (λr s₁=>match r with
   |none=>R (.ok .next) s₁
   |some v=>wpAny (model prog w) A (letOwnedTupleGo target it v) (λ_ s₂=>wpAny (model prog w) A (assign target env v) (λ_ s₃=>wpAny (model prog w) A (AU ifs env) (λok s₄=>
     if ok=true then wpAny (model prog w) A (eval elt env) (λx s₅=>wpAny (model prog w) A (call (.builtin "list.append") [acc,x]) (λ_ s₆=>∃m,m<n/\Iv m s₆) Fl s₅) Fl s₄
     else ∃m,m<n/\Iv m s₄) Fl s₃) Fl s₂) Fl s₁) Fl s)
  (n:Nat) (h:Iv n s):codeAny (model prog w) A (.compLoop (.ListComp elt [⟨target,iter,ifs,0⟩] scope pos) 0 it acc env) R s:=by
 refine codeAny_loop rfl Iv (λn s hI=>?_) n h;show wpAny _ A ((compTurn (.ListComp elt [⟨target,iter,ifs,0⟩] scope pos) 0 it acc env).onRaise _) _ _ s;refine wpAny_noted ?_;rw[compTurn_list];refine wpAny_bind (wpAny_standAt (wpAny_bind (fl (turn n s hI) λr s₁ h₁=>?_)));cases r with
 |none=>exact wpAny_pure h₁
 |some v=>
  refine wpAny_bind (fl h₁ λ_ s₂ h₂=>wpAny_bind (fl h₂ λ_ s₃ h₃=>wpAny_bind (fl h₃ λok s₄ h₄=>?_)));cases ok with
  |false=>exact wpAny_pure ⟨rfl,h₄⟩
  |true=>exact wpAny_bind (wpAny_bind (fl h₄ λx s₅ h₅=>wpAny_bind (fl h₅ λ_ s₆ h₆=>wpAny_pure (wpAny_pure ⟨rfl,h₆⟩))))
def Jn(X:Cx)(ifs:List Expr)(t:TT):Prop:=∀(pins:List (Addr×Obj))(s:Shared)(σ:St)(H:Hp)(Q:Bool->Hp->Prop),aC X pins σ H s->t σ H Q->wpAny (model X.prog X.w) X.A (AU ifs X.env) (TP X pins σ Q) X.xe s
def vW:TT:=λ_ H Q=>Q true H
theorem uC{X:Cx}:Jn X [] vW:=λpins s σ H Q I h=>wpAny_tests_nil ⟨H,I,h⟩
theorem FM{X:Cx}{c:Expr}{t:TT}(h:PT X c t):Jn X [c] t:=λpins s σ H Q I q=>wpAny_tests_one (h pins s σ H Q I q)
def Hj(J:It)(g:TG)(tt:TT)(te:TE)(a:Addr)(Q:VK)(W:Nat->Nat->St->List V->Hp->Prop):Prop:=∀i m σ ys H,W i m σ ys H->H a=some (.lst ys)/\
 ((J.stop i H/\Q (.ref a) H)\/(J.go i H/\∀x H1,J.yld i H x H1->g x σ H1 λσ2 H2=>tt σ2 H2 λb H3=>
  if b=true then te σ2 H3 λy H4=>H4 a=some (.lst ys)/\ys.length<sizeLine/\∃m',m'<m/\W (i+1) m' σ2 (ys++[y]) (c8 H4 a (.lst (ys++[y]))) else ∃m',m'<m/\W (i+1) m' σ2 ys H3))
def vX(js:List Nat)(wi:TI)(g:TG)(tt:TT)(te:TE):TE:=λσ H Q=>wi σ H λJ H1=>∀a,H1 a=none->∃W,(∃m,W 0 m (fB js σ) [] (c8 H1 a (.lst [])))/\Hj J g tt te a Q W
section
variable{X:Cx}{scope:Scope}{vars:List Str}{js:List Nat}{elt tg iter:Expr}{ifs:List Expr}{pos:Pos}{wi:TI}{g:TG}{tt:TT}{te:TE}
theorem tV{pins:List (Addr×Obj)}{s:Shared}{σ:St}{H:Hp}{it:Addr}{fp:List Addr}{tn:Nat->Heap->Prop}{J:It}{Q:VK}{E:Value->Shared->Prop}{RR:Value->Addr->Result->Shared->Prop}(hc:dh scope X.env.scope vars=true)(hj:jn X.N vars js=true)(hcalm:X.calm=true)
  (hg:∀fp s H C,PG (cZ X scope fp s H C) tg g) (ht:∀fp s H C,Jn (cZ X scope fp s H C) ifs tt) (he:∀fp s H C,PE (cZ X scope fp s H C) elt te)
  (I:aC X pins σ H s) (T:D6 X.prog X.w X.K tg J fp it tn) (st:tn 0 s.heap) (hfp:∀b∈fp,FpOk X pins H b) (q:∀a,H a=none->∃W,(∃m,W 0 m (fB js σ) [] (c8 H a (.lst [])))/\Hj J g tt te a Q W)
  (fin:∀a C H' s' m,aC X pins σ H' s'->s'.heap.Ns C m->H' C=none->C≠X.env.locals->X.s₀.heap.objs.size<=C->(∀x c,X.env.cells.lookup x=some c->c≠C)->(∀p∈X.pn++pins,p.1≠C)->Q (.ref a) H'->RR (.ref a) C (.ok .next) s'):
  wpAny (model X.prog X.w) X.A (newList []) (λacc s₃=>wpAny (model X.prog X.w) X.A (newFunctionEnv scope X.env.globals (vE scope X.env) [] X.env.qual none .none (some X.env)) (λcenv s₄=>
   codeAny (model X.prog X.w) X.A (.compStart (.ListComp elt [⟨tg,iter,ifs,0⟩] scope pos) 0 (.ref it) acc {cenv with scope:=relabel scope X.env}) (RR acc cenv.locals) s₄) E s₃) E s:=by
 have nocell:∀y∈scope.names,y.2≠.cell:=λy hy=>(mY hc y hy).2.2.1;refine wpAny_newObj_type (wpAny_newFunctionEnv nocell (by intro y hy;simp at hy) (λh₁ hns hsb=>?_) (o6 hc))
 dsimp only at hns hsb ⊢;generalize hA:s.heap.objs.size=a at *;have fa:H a=none:=by rw[←hA];exact I.fresh
 obtain⟨W,⟨m0,w0⟩,hW⟩:=q a fa;have I3:aC X pins σ (c8 H a (.lst [])) {s with heap:=s.heap.push {cls:=.type "list",data:=.seq ([]:List Value).toArray}}:=by
  rw[←hA];exact I.lnew (t':=s.toks) (ys:=[]) (its:=[]) .nil (zero_le _)
 generalize hB:s.heap.push {cls:=.type "list",dict:=none,data:=.seq ([]:List Value).toArray}=hp at *;have szp:hp.objs.size=a+1:=by rw[←hB,size_push,hA]
 have keep:∀b o,hp.get? b=some o->h₁.get? b=some o:=λb o e=>(hsb.2 b (ne_of_lt (lt_size e))).trans (get?_push_of_some _ e);have up:∀b o,s.heap.get? b=some o->hp.get? b=some o:=λb o e=>by rw[←hB];exact get?_push_of_some _ e
 have lo:∀b∈fp,b<a:=λb hb=>by
  obtain⟨o,e,_⟩:=T.obj 0 _ st b hb;rw[←hA];exact lt_size e
 have hfp3:∀b∈fp,FpOk X pins (c8 H a (.lst [])) b:=λb hb=>⟨by rw[av (ne_of_lt (lo b hb))];exact(hfp b hb).1,(hfp b hb).2⟩
 have I4:=EA (tk:=s.toks+([]:List (Str×Value)).length) I3 hc hj rfl hfp3 (λb hb=>by show b<hp.objs.size;rw[szp];exact lt_succ_of_lt (lo b hb)) hns keep
 generalize hX:cZ X scope fp {s with heap:=hp} (c8 H a (.lst [])) hp.objs.size=X' at I4;have eP:X'.prog=X.prog:=by rw[←hX];rfl
 have eW:X'.w=X.w:=by rw[←hX];rfl
 have eK:X'.K=X.K:=by rw[←hX];rfl
 have eA:X'.A=X.A:=by rw[←hX];rfl
 have eC:X'.calm=true:=by rw[←hX];exact hcalm
 have eL:X'.env.locals=hp.objs.size:=by rw[←hX];rfl
 have eE:X'.env=compEnvC scope (vE scope X.env) hp.objs.size X.env:=by rw[←hX];rfl
 have eX:X'.ex=fp:=by rw[←hX];rfl
 have exe:X'.xe=Fl:=by rw[←hX];rfl
 have epn:X'.pn=[]:=by rw[←hX];rfl
 have hg':PG X' tg g:=by rw[←hX];exact hg _ _ _ _
 have ht':Jn X' ifs tt:=by rw[←hX];exact ht _ _ _ _
 have he':PE X' elt te:=by rw[←hX];exact he _ _ _ _
 have stat:∀{H':Hp},(∀b∈fp,H' b=none)->∀b∈fp,FpOk X' [] H' b:=λhn b hb=>by
  have hb':b∈X'.ex:=by rw[eX];exact hb
  exact⟨hn b hb,(I4.ok.exf b hb').1,I4.ok.exfs b hb',.inl hb',(I4.ok.exf b hb').2,λp hp=>by rw[epn] at hp;cases hp⟩
 have back:∀{σ':St}{H':Hp}{s':Shared},aC X' [] σ' H' s'->Q (.ref a) H'->RR (.ref a) hp.objs.size (.ok .next) s':=λ{σ' H' s'} J qf=>by
  obtain⟨m,hn,_⟩:=J.loc;rw[eL] at hn;have hfree:=J.free;rw[eL] at hfree;have jos:=J.os;have jbase:=J.base;have jhok:=J.hok;rw[←hX] at jos jbase jhok;refine fin a _ H' s' m (I3.call' (ch:=fp) jos jbase jhok J.bare λb hb=>⟨(hfp b hb).2.2.2.1,(hfp b hb).2.1,(hfp b hb).2.2.2.2.1,(hfp b hb).2.2.2.2.2⟩) hn hfree (ne_of_gt I3.lt) I3.sz (λx c e z=>?_) (λp hp' z=>?_) qf
  ·obtain⟨v,o,ho,_⟩:=I3.cell x c e;have:=lt_size ho;rw[z] at this;exact lt_irrefl _ this
  ·have:=lt_size (I3.pin p hp').1;rw[z] at this;exact lt_irrefl _ this
 have st1:tn 0 h₁:=T.keep 0 _ _ st λb hb o e=>keep b o (up b o e);have loop:codeAny (model X.prog X.w) X.A (.compLoop (.ListComp elt [⟨tg,iter,ifs,0⟩] scope pos) 0 (.ref it) (.ref a) X'.env) (RR (.ref a) hp.objs.size) {s with heap:=h₁,toks:=s.toks+([]:List (Str×Value)).length}:=by
  refine CU (λn s'=>∃i σ' ys H',aC X' [] σ' H' s'/\tn i s'.heap/\(∀b∈fp,H' b=none)/\W i n σ' ys H') ?_ m0 ⟨0,_,[],_,I4,st1,λb hb=>(hfp3 b hb).1,w0⟩
  rintro n s3 ⟨i,σ3,ys,H3,J3,st3,fr3,w3⟩
  obtain⟨ha,hw⟩:=hW i n σ3 ys H3 w3;rcases hw with⟨stop,qn⟩|⟨go,step⟩
  ·have z:=T.done X' eP eW eK eC i [] s3 σ3 H3 Fl J3 (stat fr3) st3 stop;rw[eA] at z;refine dA z λr s4 ⟨hr,J4⟩=>?_;subst hr;exact back J4 qn
  ·have z:=T.item X' eP eW eK eC i [] s3 σ3 H3 Fl J3 (stat fr3) st3 go;rw[eA] at z;refine dA z λr s4 ⟨u,hr,h4⟩=>?_;subst hr;refine dA h4 λ_ s5 ⟨x,H5,J5,r5,y5,st5,fr5⟩=>?_;have J5':=J5.pinned (stat fr5) (T.obj _ _ st5);have z5:=hg' _ s5 σ3 H5 x u _ J5' r5 (step x H5 y5);rw[eP,eW,eA,exe] at z5;refine dA z5 λ_ s6 ⟨σ6,H6,J6,q6⟩=>?_;have z6:=ht' _ s6 σ6 H6 _ J6 q6;rw[eP,eW,eA,exe] at z6;refine dA z6 λok s7 ⟨H7,J7,q7⟩=>?_;have again:∀{σ8:St}{H8:Hp}{s8:Shared}{ys8:List V}{m':Nat},aC X' ([]++qr fp s5.heap) σ8 H8 s8->m'<n->W (i+1) m' σ8 ys8 H8->∃m,m<n/\∃i σ' ys H',aC X' [] σ' H' s8/\tn i s8.heap/\(∀b∈fp,H' b=none)/\W i m σ' ys H':=λ{σ8 H8 s8 ys8 m'} J8 hm w8=>by
    refine⟨m',hm,i+1,σ8,ys8,H8,J8.unpinned,T.keep _ _ _ st5 λb hb o e=>(J8.pin (b,o) (mem_append_right _ (mem_append_right _ (kM hb e)))).1,λb hb=>?_,w8⟩;obtain⟨o,e,d⟩:=T.obj _ _ st5 b hb;exact(J8.pin (b,o) (mem_append_right _ (mem_append_right _ (kM hb e)))).2.1
   cases ok with
   |false=>
    rw[if_neg Bool.false_ne_true] at q7 ⊢;obtain⟨m',hm,w7⟩:=q7;exact again J7 hm w7
   |true=>
    rw[if_pos rfl] at q7 ⊢;have z7:=he' _ s7 σ6 H7 _ J7 q7;rw[eP,eW,eA,exe] at z7;refine dA z7 λv s8 ⟨y,H8,J8,r8,h8,hl8,m',hm,w8⟩=>?_;have z8:=tm _ s8 σ6 H8 (.ref a) [y] (.ref a) [v] (λ_ H9=>H9=c8 H8 a (.lst (ys++[y]))) J8 rfl (.cons r8 .nil) ⟨a,ys,y,rfl,rfl,h8,hl8,rfl⟩;rw[eP,eW,eA,exe] at z8;refine dA z8 λ_ s9 ⟨_,H9,J9,_,q9⟩=>?_;subst q9;exact again J9 hm w8
 rw[eE] at loop;exact codeAny_compStart_list loop (T.self _ 0 _ _ _ st1 loop)
theorem FR(hc:dh scope X.env.scope vars=true)(hj:jn X.N vars js=true)(hcalm:X.calm=true)(hi:PI X tg iter wi)
  (hg:∀fp s H C,PG (cZ X scope fp s H C) tg g) (ht:∀fp s H C,Jn (cZ X scope fp s H C) ifs tt) (he:∀fp s H C,PE (cZ X scope fp s H C) elt te) (hs:∀x,foldedSetIterable iter X.env x=pure x:=by intro _;rfl):
  PE X (.ListComp elt [⟨tg,iter,ifs,0⟩] scope pos) (vX js wi g tt te):=by
 intro pins s σ H Q I h;rw[eval_ListComp];refine wpAny_comprehension_free (use:=none) rfl hs (mH (oK I hc)) (o6 hc) (λy hy e=>by rw[(mY hc y hy).1,e]) (dA (hi pins s σ H _ I h) λv s1 h1=>dA h1 λitv s2 h2=>?_)
 obtain⟨it,fp,tn,J,H2,e,I2,T,st2,f2,q⟩:=h2;subst e;refine tV (RR:=λacc C=>compPost (model X.prog X.w) X.A X.xe none (EP X pins σ Q) acc C) hc hj hcalm hg ht he I2 T st2 f2 q ?_;intro a C H' s' m J' hn hC hL hS hcell hpin q';exact⟨m,hn,λh' sb=>⟨.ref a,H',J'.turned (t':=s'.toks) (λb o hb e=>(sb.2 b hb).trans e) hC hL (.inr hS) hcell hpin,rfl,q'⟩⟩
theorem mN{i:Nat}{x:Str}{pos' spos:Pos}(hN:X.N.Nodup)(hi':X.N[i]?=some x)(hx:yd X.env.scope x)(hc:dh scope X.env.scope vars=true)(hj:jn X.N vars js=true)(hcalm:X.calm=true)(hi:PI X tg iter wi)
  (hg:∀fp s H C,PG (cZ X scope fp s H C) tg g) (ht:∀fp s H C,Jn (cZ X scope fp s H C) ifs tt) (he:∀fp s H C,PE (cZ X scope fp s H C) elt te)
  (hsw:swapsWith (.ListComp elt [⟨tg,iter,ifs,0⟩] scope pos) (some (.Name x pos')) spos.line X.env=pure true:=by rfl) (hs:∀x,foldedSetIterable iter X.env x=pure x:=by intro _;rfl)
  (hf:X.fn x=true\/X.env.scope.names.lookup x=some .local:=by first|exact .inl rfl|exact .inr rfl|assumption):
  PS X (.Assign [.Name x pos'] (.ListComp elt [⟨tg,iter,ifs,0⟩] scope pos) spos) (Do (vX js wi g tt te) (tJ i)):=by
 intro pins s σ H D I h;rw[exec_Assign_Name_used _ _ _ _ hsw];refine wpAny_bind (wpAny_standAt (wpAny_bind ?_));show wpAny _ X.A (do let _ ←comprehension (.ListComp elt [⟨tg,iter,ifs,0⟩] scope pos) scope X.env _ (newList []) false (eval iter X.env) (some (assign (.Name x pos') X.env))) _ _ s
 refine wpAny_bind (wpAny_mono (wpAny_comprehension_free (use:=some (assign (.Name x pos') X.env)) (Q:=λ_ s'=>SP X pins D .next s') rfl hs (mH (oK I hc)) (o6 hc) (λy hy e=>by rw[(mY hc y hy).1,e])
  (dA (hi pins s σ H _ I h) λv s1 h1=>dA h1 λitv s2 h2=>?_)) (λ_ s' hq=>wpAny_pure (wpAny_pure hq)) λ_ _ e=>e)
 obtain⟨it,fp,tn,J,H2,e,I2,T,st2,f2,q⟩:=h2;subst e;refine tV (RR:=λacc C=>compPost (model X.prog X.w) X.A X.xe (some (assign (.Name x pos') X.env)) (λ_ s'=>SP X pins D .next s') acc C) hc hj hcalm hg ht he I2 T st2 f2 q ?_;intro a C H' s' m J' hn hC hL hS hcell hpin q';refine wpAny_assign_Name (sP J' hN hi' hx (v:=.ref a) rfl (λs'' J2 ⟨b,sb,hb⟩=>?_) hf);have hCb:C≠b:=by
  rcases hb with z|z
  ·rw[z];exact hL
  ·exact(hcell x b z).symm
 exact⟨m,hn.sameBut sb hCb,λh' sb'=>⟨_,H',J2.turned (t':=s''.toks) (λb o hb e=>(sb'.2 b hb).trans e) hC hL (.inr hS) hcell hpin,q'⟩⟩
end
section
variable{X:Cx}{pins:List (Addr×Obj)}{σ:St}{H:Hp}{s:Shared}{l:Addr}{xs:List V}
def JH(K:Frag):R2:=λx y H Q=>∃l b xs zs,x=.ref l/\y=.ref b/\kY K H l xs/\kY K H b zs/\xs.length+zs.length<=sizeLine/\∀p,H p=none->Q (.ref p) (c8 H p (.lst (xs++zs)))
theorem G2:iU X (binaryOp .Add) (JH X.K):=λpins s σ H x y v u Q I rx ry ⟨l,b,xs,zs,ex,ey,hH,hB,hz,q⟩=>by
 subst ex ey;cases rx;cases ry;obtain⟨i1,r1,p1,_⟩:=I.list hH;obtain⟨i2,r2,p2,_⟩:=I.list hB;obtain⟨⟨c1,d1,t1,s1⟩,o1,k1,n1,g1⟩:=p1.isList;obtain⟨⟨c2,d2,t2,s2⟩,o2,k2,n2,g2⟩:=p2.isList;simp only at k1 g1 k2 g2;subst k1 g1 k2 g2;have l1:=r1.length;have l2:=r2.length;have ea:i1.toArray++i2.toArray=(i1++i2).toArray:=by simp
 refine concat_meets ⟨_,o1,rfl⟩ ⟨_,o2,rfl⟩ noFill_list_add seq_list_add PySem.F.slot_list_add PySem.F.entry_list_add (PySem.F.args_list_add_2 _ _) (list_addW l b _ _ n1 n2 d1 d2 s1 s2 (by rw[size_toArray,size_toArray,←l1,←l2];exact hz)) ⟨o1,o2,?_⟩
 rw[ea];exact⟨.ref _,_,I.lnew (t':=s.toks) (r1.append r2) (by rw[length_append];exact hz),rfl,q _ I.fresh⟩
theorem DW:iU X (binaryOp .Add) (λx y H Q=>∃a b ys,x=.ref a/\y=.ref b/\nh X.K H a []/\nh X.K H b ys/\Q (.ref b) H):=λpins s σ H x y v u Q I rx ry ⟨a,b,ys,ex,ey,ha,hb,q⟩=>by
 subst ex ey;cases rx;cases ry;obtain⟨i1,r1,⟨⟨c1,d1,t1,s1⟩,o1,k1,n1,g1⟩,_⟩:=I.tuple ha;obtain⟨i2,r2,⟨⟨c2,d2,t2,s2⟩,o2,k2,n2,g2⟩,_⟩:=I.tuple hb;cases r1;simp only at k1 g1 k2 g2;subst k1 g1 k2 g2;exact concat_meets ⟨_,o1,rfl⟩ ⟨_,o2,rfl⟩ noFill_tuple_add seq_tuple_add PySem.F.slot_tuple_add PySem.F.entry_tuple_add (PySem.F.args_tuple_add_2 _ _)
  (tuple_addW0 a b _ _ n1 n2 d1 d2 s1 s2 (by rfl)) ⟨o1,o2,⟨.ref b,H,I,rfl,q⟩⟩
theorem qm(ns:List Int):∀k,k<=ns.length->preSum (λi=>(ns[i]?).getD 0) k=(ns.take k).sum
 |0,_=>by simp[preSum]
 |k+1,h=>by
  have hk:k<ns.length:=h;rw[List.take_add_one,getElem?_eq_getElem hk,List.sum_append,←qm ns k (le_of_lt hk)];simp[preSum,getElem?_eq_getElem hk]
theorem CW(hc:X.calm=true):dD X (.builtin "sum") (λxs H Q=>∃(p:Addr)(ns:List Int),xs=[.ref p]/\kY X.K H p (ns.map V.int)/\Q (.int ns.sum) H):=λpins s σ H xs us Q I r ⟨p,ns,ex,hq,q⟩=>by
 subst ex;obtain⟨u,rfl,rx⟩:=j0 r;cases rx;obtain⟨its,rv,pl,hz⟩:=I.list hq;have hlt:p<s.heap.objs.size:=by obtain⟨_,e,_⟩:=pl.isList;exact lt_size e
 have hlen:its.length=ns.length:=by rw[←rv.length,length_map]
 have up:∀b o,s.heap.get? b=some o->(s.heap.push {cls:=.type "list_iterator",data:=.fields #[.ref p,.int 0 0]}).get? b=some o:=λb o e=>get?_push_of_some _ e;refine call_sum_walkG (wpAny_pyIter_list pl.isList ⟨_,_,_,_,_,_,λi=>(ns[i]?).getD 0,rfl,Walks.list (A:=X.A.in1) (I.ok.hd hc) s.heap.objs.size p (ne_of_lt hlt) its.toArray,⟨⟨_,get?_push_size _ rfl,rfl,rfl⟩,pl.isList.push _⟩,λb hb=>?_,λi v hv=>?_,λh' tk t' hk=>?_⟩)
 ·rw[show({s with heap:=s.heap.push {cls:=.type "list_iterator",data:=.fields #[.ref p,.int 0 0]}}:Shared).heap.objs.size=s.heap.objs.size+1 from size_push ..];rcases mem_cons.mp hb with e|e
  ·rw[e];exact lt_succ_self _
  ·rw[mem_singleton.mp e];exact lt_succ_of_lt hlt
 ·have hv':its[i]?=some v:=by simpa using hv
  have hi:i<ns.length:=by rw[←hlen];exact(List.getElem?_eq_some_iff.mp hv').1
  obtain⟨u,e,ru⟩:=rv.get (i:=i) (x:=.int ns[i]) (by rw[getElem?_map,getElem?_eq_getElem hi];rfl)
  rw[hv'] at e;cases e;obtain⟨t,e⟩:=ru;exact⟨t,by show v=Value.int ((ns[i]?).getD 0) t;rw[e,getElem?_eq_getElem hi];rfl⟩
 ·have es:preSum (λi=>(ns[i]?).getD 0) its.toArray.size=ns.sum:=by rw[size_toArray,hlen,qm ns _ (le_refl _),List.take_length]
  refine⟨.int ns.sum,H,I.kept (t':=tk) λb o e=>hk b o (by simpa using ne_of_lt (lt_size e)) (up b o e),⟨t',by rw[es]⟩,q⟩
theorem ET(l:Addr)(items:Array Value)(n:Nat)(b:Addr)(items2:Array Value)(n2:Nat)(dd:Option Addr)(sl:Array (Option Value))(h0:¬(!items.isEmpty && Builtin.List.listTooLong (items.size+items2.size))=true)(h1:items.size<=sizeLine)(h2:items.size+items2.size<=sizeLine+1):
  Meets (Builtin.«list.extend» ⟨[.ref l,.ref b],[]⟩) (λ_ R s=>s.heap.get? l=some {cls:=.type "list",dict:=none,data:=.seq items n,slots:=#[]}/\s.heap.get? b=some ⟨.type "tuple",dd,.seq items2 n2,sl⟩/\R (.ok (.ret Value.none)) {s with heap:=s.heap.update l (Obj.mapSeq λx=>x++items2),toks:=s.toks}):=
 .of_wp λprog w A R s h=>by
  obtain⟨hp,g,d,tk,os⟩:=s;obtain⟨hl,hb,h⟩:=h;have f1:=AutoSeq1.idx_int;have f2:=AutoSeq1.sub_tuple_tuple;have f3:=AutoSeq1.sub_list_list;have f4:=AutoSeq1.sub_tuple_list;have f5:=AutoSeq1.sub_list_tuple;have hz':(items++items2).size<=sizeLine+1:=by rw[Array.size_append];exact h2
  wp_walk using(wpAny_updateSeq hl rfl (hz:=h1) (_hz':=hz')),AutoSeq1.wpAny_loadPart' hl,AutoSeq1.wpAny_loadPart' hb
  exact⟨_,rfl,h⟩
theorem zo:Le X "list.extend" (λx vs H Q=>∃l b xs zs,x=.ref l/\vs=[.ref b]/\H l=some (.lst xs)/\nh X.K H b zs/\xs.length+zs.length<=sizeLine/\Q .non (c8 H l (.lst (xs++zs)))):=
 λpins s σ H x vs v us Q I rx rv ⟨l,b,xs,zs,ex,ev,hH,hB,hz,q⟩=>by
 subst ex ev;cases rx;obtain⟨u,rfl,ru⟩:=rv.one;cases ru;obtain⟨z,its,n,r,hl,e⟩:=I.lstM hH;obtain⟨i2,r2,⟨⟨c2,d2,t2,s2⟩,o2,k2,n2,g2⟩,_⟩:=I.tuple hB;simp only at k2 g2;subst k2 g2;have hl2:=r2.length;have hsz:its.toArray.size+i2.toArray.size<=sizeLine:=by rw[size_toArray,size_toArray,←hl,←hl2];exact hz
 refine call_meets F.slot_list_extend ⟨_,e,rfl⟩ F.entry_list_extend (F.args_list_extend_2 _ _) (ET l its.toArray n b i2.toArray n2 d2 s2 (by rw[qL hsz,Bool.and_false];exact Bool.false_ne_true) (by rw[size_toArray,←hl];exact z) (Nat.le_succ_of_le hsz)) ⟨e,o2,?_⟩
 exact⟨.non,_,I.lset (its':=its++i2) hH e (by simp) (r.append r2) (by rw[length_append];exact hz),rfl,q⟩
theorem EU(l:Addr)(items:Array Value)(n:Nat)(b:Addr)(items2:Array Value)(n2:Nat)(dd:Option Addr)(sl:Array (Option Value))(h0:¬(!items.isEmpty && Builtin.List.listTooLong (items.size+items2.size))=true)(h1:items.size<=sizeLine)(h2:items.size+items2.size<=sizeLine+1):
  Meets (Builtin.«list.extend» ⟨[.ref l,.ref b],[]⟩) (λ_ R s=>s.heap.get? l=some {cls:=.type "list",dict:=none,data:=.seq items n,slots:=#[]}/\s.heap.get? b=some ⟨.type "list",dd,.seq items2 n2,sl⟩/\R (.ok (.ret Value.none)) {s with heap:=s.heap.update l (Obj.mapSeq λx=>x++items2),toks:=s.toks}):=
 .of_wp λprog w A R s h=>by
  obtain⟨hp,g,d,tk,os⟩:=s;obtain⟨hl,hb,h⟩:=h;have f1:=AutoSeq1.idx_int;have f2:=AutoSeq1.sub_tuple_tuple;have f3:=AutoSeq1.sub_list_list;have f4:=AutoSeq1.sub_tuple_list;have f5:=AutoSeq1.sub_list_tuple;have hz':(items++items2).size<=sizeLine+1:=by rw[Array.size_append];exact h2
  wp_walk using(wpAny_updateSeq hl rfl (hz:=h1) (_hz':=hz')),AutoSeq1.wpAny_loadPart' hl,AutoSeq1.wpAny_loadPart' hb
  exact⟨_,rfl,h⟩
theorem zq:Le X "list.extend" (λx vs H Q=>∃l b xs zs,x=.ref l/\vs=[.ref b]/\H l=some (.lst xs)/\kY X.K H b zs/\xs.length+zs.length<=sizeLine/\Q .non (c8 H l (.lst (xs++zs)))):=
 λpins s σ H x vs v us Q I rx rv ⟨l,b,xs,zs,ex,ev,hH,hB,hz,q⟩=>by
 subst ex ev;cases rx;obtain⟨u,rfl,ru⟩:=rv.one;cases ru;obtain⟨z,its,n,r,hl,e⟩:=I.lstM hH;obtain⟨i2,r2,p2,_⟩:=I.list hB;obtain⟨⟨c2,d2,t2,s2⟩,o2,k2,n2,g2⟩:=p2.isList;simp only at k2 g2;subst k2 g2;have hl2:=r2.length;have hsz:its.toArray.size+i2.toArray.size<=sizeLine:=by rw[size_toArray,size_toArray,←hl,←hl2];exact hz
 refine call_meets F.slot_list_extend ⟨_,e,rfl⟩ F.entry_list_extend (F.args_list_extend_2 _ _) (EU l its.toArray n b i2.toArray n2 d2 s2 (by rw[qL hsz,Bool.and_false];exact Bool.false_ne_true) (by rw[size_toArray,←hl];exact z) (Nat.le_succ_of_le hsz)) ⟨e,o2,?_⟩
 exact⟨.non,_,I.lset (its':=its++i2) hH e (by simp) (r.append r2) (by rw[length_append];exact hz),rfl,q⟩
theorem Ae:∀{xs:List V}{us:List Value},xs.length=us.length->(∀(i:Nat) x u,xs[i]?=some x->us[i]?=some u->RelV x u)->Vals xs us
 |[],[],_,_=>.nil
 |x::xs,u::us,hl,h=>.cons (h 0 x u rfl rfl) (Ae (by simpa using hl) λi x' u' e1 e2=>h (i+1) x' u' (by simpa using e1) (by simpa using e2))
 |[],_::_,hl,_=>by simp at hl
 |_::_,[],hl,_=>by simp at hl
theorem Dh{lo:Int}{acc:Array Value}{n:Nat}(h:ItemsOf (λi v=>∃t,v=.int (lo+i * 1) t) acc n):Vals ((List.range n).map λk:Nat=>V.int (lo+k)) acc.toList:=by
 refine Ae (by rw[length_map,length_range,←h.1,length_toList]) λi x u e1 e2=>?_
 obtain⟨t,rfl⟩:=h.2 i u (by rw[←getElem?_toList];exact e2)
 rw[getElem?_map] at e1;cases q:(List.range n)[i]? with
 |none=>rw[q] at e1;cases e1
 |some k=>
  rw[q] at e1;cases e1;have hk:i<n:=by
   have:=(List.getElem?_eq_some_iff.mp q).1;rwa[length_range] at this
  rw[getElem?_range hk] at q;cases q;exact⟨t,by rw[Int.mul_one]⟩
theorem xY:dD X (.type "range") (λxs H Q=>∃lo hi,xs=[.int lo,.int hi]/\∀p,H p=none->Q (.ref p) (c8 H p (.rng lo hi))):=λpins s σ H xs us Q I r ⟨lo,hi,ex,q⟩=>by
 subst ex;obtain⟨u,w,rfl,⟨t,rfl⟩,⟨t',rfl⟩⟩:=GH r;refine call_range_2 ⟨.ref s.heap.objs.size,_,I.laid (t':=s.toks+1) (o:=.rng lo hi) (λb o e=>get?_push_of_some _ e) (le_refl _) ⟨_,_,_,get?_push_size _ rfl⟩,rfl,q _ I.fresh⟩
theorem o9(hc:X.calm=true):dD X (.type "list") (λxs H Q=>∃p lo hi,xs=[.ref p]/\H p=some (.rng lo hi)/\(-(2 ^ 62)<=lo/\lo<2 ^ 62/\-(2 ^ 62)<=hi/\hi<2 ^ 62)/\(hi - lo).toNat<=sizeLine/\
  ∀l,H l=none->Q (.ref l) (c8 H l (.lst ((List.range (hi - lo).toNat).map λk:Nat=>V.int (lo+k))))):=λpins s σ H xs us Q I r ⟨p,lo,hi,ex,hp,⟨b1,b2,b3,b4⟩,hz,q⟩=>by
 subst ex;obtain⟨u,rfl,ru⟩:=j0 r;cases ru;obtain⟨t,u,v,e⟩:=I.hok p _ hp;refine call_list_range (n:=(hi - lo).toNat) (I.ok.hd hc) (show IsRange s.heap p lo hi 1 t u v from e) (small_one b1 b2 b3 b4) (by rw[rangeSize_one];split <;> omega) hz λh' tk acc c kp e' it=>?_
 exact⟨.ref s.heap.objs.size,_,I.laid (t':=tk) (o:=.lst ((List.range (hi - lo).toNat).map λk:Nat=>V.int (lo+k))) kp (le_refl _) ⟨by rw[length_map,length_range];exact hz,acc.toList,c,Dh it,by simpa using e'⟩,rfl,q _ I.fresh⟩
theorem zG{x:V}{u:Value}{t:String}{T:String}{b:Bool}(I:aC X pins σ H s)(rx:RelV x u)(ty:ng X.K H x (.type t)\/(t = "tuple" /\ ∃a xs,x=.ref a/\nh X.K H a xs)\/(t = "list" /\ ∃a xs,x=.ref a/\kY X.K H a xs))(e:kitOne X.K (.type t) (.type T)=some b){Q:Value->Shared->Prop}{E:Value->Shared->Prop}{A:Around}
  (h:∀tk,Q (.bool b) {s with toks:=tk}):wpAny (model X.prog X.w) A (call (.builtin "isinstance") [u,.type T]) Q E s:=by
 rcases ty with ty|⟨rfl,a,xs,rfl,hq⟩|⟨rfl,a,xs,rfl,hq⟩
 ·exact CD I rx ty e h
 ·cases (show u=Value.ref a from rx);obtain⟨its,_,⟨o,h1,h2,_⟩,_⟩:=I.tuple hq;exact kia_one PySem.W.kitx_tuple I.kIn ⟨o,h1,h2⟩ e (λz=>nomatch z) h
 ·cases (show u=Value.ref a from rx);obtain⟨its,_,pl,_⟩:=I.list hq;obtain⟨o,h1,h2,_⟩:=pl.isList;exact kia_one kitx_list I.kIn ⟨o,h1,h2⟩ e (λz=>nomatch z) h
theorem xZ:dD X (.builtin "isinstance") (λxs H Q=>∃x t T b,xs=[x,.ty T]/\(ng X.K H x (.type t)\/(t = "tuple" /\ ∃a xs,x=.ref a/\nh X.K H a xs)\/(t = "list" /\ ∃a xs,x=.ref a/\kY X.K H a xs))/\kitOne X.K (.type t) (.type T)=some b/\Q (.bl b) H):=λpins s σ H xs us Q I r ⟨x,t,T,b,ex,ty,e,q⟩=>by
 subst ex;obtain⟨u,w,rfl,ru,rw'⟩:=GH r;cases (show w=Value.type T from rw');exact zG I ru ty e λtk=>⟨.bl b,H,I.tok tk,rfl,q⟩
end
section
variable{prog:Program}{w:World}{A:Around}{E:Value->Shared->Prop}{s:Shared}
theorem qN{it t:Addr}{i:Nat}{items:Array Value}{x:Value}{Q:Value->Shared->Prop}(hit:s.heap.IsTupleIter it t i)(ht:s.heap.IsTuple t items)(hx:items[i]?=some x)
  (hQ:∀h',h'.IsTupleIter it t (i+1)->Heap.SameBut it s.heap h'->Q x {s with heap:=h'}):wpAny (model prog w) A (Builtin.SmallTypes.nextOf (.ref it)) Q E s:=by
 obtain⟨o,ho,hc,hd⟩:=id hit;obtain⟨ot,hot,_,nt,hdt⟩:=ht;unfold Builtin.SmallTypes.nextOf;refine wpAny_bind (wpAny_callSpecial?_slot (name:=Str.ofString "__next__") hit.typeIs F.slot_tuple_iterator_next (wpAny_call_entry F.slot_tuple_iterator_next hit.typeIs F.entry_tuple_iterator_next ?_ (F.args_tuple_iterator_next_1 _)));show wpAny _ _ (field (.ref it) 0 >>= _) _ _ s;refine wpAny_bind (wpAny_field ho hd (x:=.ref t) rfl ?_);show wpAny _ _ (if(Value.ref t == Value.none)=true then _ else _) _ _ s;rw[if_neg (show ¬((Value.ref t == Value.none)=true) from Bool.false_ne_true)];show wpAny _ _ (field (.ref it) 1 >>= _) _ _ s;refine wpAny_bind (wpAny_field ho hd (x:=.int i 0) rfl ?_);show wpAny _ _ (seqItems? (.ref t) >>= _) _ _ s;refine wpAny_bind (wpAny_seqItems hot hdt ?_);simp only[toNat_natCast,hx];refine wpAny_bind (wpAny_setField ho hd (by simp) (wpAny_pure ⟨x,rfl,wpAny_pure (hQ _ ⟨_,Heap.get?_update_self _ ho (Obj.isFreed_of_fields (Obj.data_mapFields hd _)),(Obj.cls_mapFields ..).trans hc,?_⟩ (Heap.SameBut.update ..))⟩))
 rw[Obj.data_mapFields hd];simp[rawInt]
theorem tj{it t:Addr}{i:Nat}{items:Array Value}{Q:Value->Shared->Prop}(hh:A.handled=none)(hit:s.heap.IsTupleIter it t i)(ht:s.heap.IsTuple t items)(hx:items[i]?=none)
  (hE:∀h' e,Heap.ExtBut it s.heap h'->(∃o,h'.get? e=some o/\o.cls=.type "StopIteration")->E (.ref e) {s with heap:=h'}):wpAny (model prog w) A (Builtin.SmallTypes.nextOf (.ref it)) Q E s:=by
 obtain⟨o,ho,hc,hd⟩:=id hit;obtain⟨ot,hot,_,nt,hdt⟩:=ht;unfold Builtin.SmallTypes.nextOf;refine wpAny_bind (wpAny_callSpecial?_slot (name:=Str.ofString "__next__") hit.typeIs F.slot_tuple_iterator_next (wpAny_call_entry F.slot_tuple_iterator_next hit.typeIs F.entry_tuple_iterator_next ?_ (F.args_tuple_iterator_next_1 _)));show wpAny _ _ (field (.ref it) 0 >>= _) _ _ s;refine wpAny_bind (wpAny_field ho hd (x:=.ref t) rfl ?_);show wpAny _ _ (if(Value.ref t == Value.none)=true then _ else _) _ _ s;rw[if_neg (show ¬((Value.ref t == Value.none)=true) from Bool.false_ne_true)];show wpAny _ _ (field (.ref it) 1 >>= _) _ _ s;refine wpAny_bind (wpAny_field ho hd (x:=.int i 0) rfl ?_);show wpAny _ _ (seqItems? (.ref t) >>= _) _ _ s;refine wpAny_bind (wpAny_seqItems hot hdt ?_);simp only[toNat_natCast,hx];refine wpAny_bind (wpAny_rule (wpAny_bind (wpAny_setField ho hd (by simp) ?_)));show wpAny _ _ (newExc (.type "StopIteration") [] >>= _) _ _ _
 refine wpAny_bind ?_;simp only[newExc,newTuple];refine wpAny_bind (wpAny_newObj_type ?_ (by size_fits))
 refine wpAny_bind (m:=firstArgMember _ _) (wpAny_of_eq (a:=Value.none) (by first|rfl|(simp only[firstArgMember];rfl)) ?_);refine wpAny_newObj_type ?_ (by size_fits);simp only[raiseNew]
 refine wpAny_bind (wpAny_handled ?_);first|rw[show A.in1.handled=none from hh]|rw[hh]
 exact wpAny_bind (wpAny_pure (wpAny_throw (hE _ _ (((Heap.SameBut.update ..).extBut.push _).push _) ⟨_,get?_push_size _ rfl,rfl⟩)))
end
structure Nx(prog:Program)(w:World)(A:Around)(it l:Addr)(st:Nat->Heap->Prop)(val:Nat->Option Value):Prop where
 item:∀(s:Shared)(k:Nat)(x:Value)(Q:Value->Shared->Prop)(E:Value->Shared->Prop),st k s.heap->val k=some x->(∀h',st (k+1) h'->Heap.SameBut it s.heap h'->Q x {s with heap:=h'})->wpAny (model prog w) A (Builtin.SmallTypes.nextOf (.ref it)) Q E s
 stop:∀(s:Shared)(k:Nat)(Q:Value->Shared->Prop)(E:Value->Shared->Prop),st k s.heap->val k=none->
  (∀h' e,Heap.ExtBut it s.heap h'->(∃o,h'.get? e=some o/\o.cls=.type "StopIteration")->E (.ref e) {s with heap:=h'})->wpAny (model prog w) A (Builtin.SmallTypes.nextOf (.ref it)) Q E s
 ext:∀(k:Nat)(h h':Heap),st k h->(∀b,b=it\/b=l->∀o,h.get? b=some o->h'.get? b=some o)->st k h'
 there:∀(k:Nat)(h:Heap),st k h->(∃o,h.get? it=some o/\∀v,o.data≠.cell v)/\∃o,h.get? l=some o
theorem G4{prog:Program}{w:World}{A:Around}(hh:A.handled=none){it l:Addr}(ne:l≠it)(items:Array Value):Nx prog w A it l (λk h=>h.IsListIter it l k/\h.IsList l items) (λk=>items[k]?) where
 item:=λs k x Q E st e h=>wpAny_nextOf_list_item st.1 st.2 e λh' a b=>h h' ⟨a,st.2.extBut b.extBut ne⟩ b
 stop:=λs k Q E st e h=>wpAny_nextOf_list_end hh st.1 st.2 e h
 ext:=λk h h' st kp=>⟨st.1.at λo e=>kp it (.inl rfl) o e,st.2.at λo e=>kp l (.inr rfl) o e⟩
 there:=λk h st=>by
  obtain⟨⟨o,e,c,d⟩,⟨o2,e2,_⟩⟩:=st;exact⟨⟨o,e,λv z=>by rw[d] at z;cases z⟩,o2,e2⟩
theorem Il{prog:Program}{w:World}{A:Around}(hh:A.handled=none){it l:Addr}(ne:l≠it)(items:Array Value):Nx prog w A it l (λk h=>h.IsTupleIter it l k/\h.IsTuple l items) (λk=>items[k]?) where
 item:=λs k x Q E st e h=>qN st.1 st.2 e λh' a b=>h h' ⟨a,st.2.extBut b.extBut ne⟩ b
 stop:=λs k Q E st e h=>tj hh st.1 st.2 e h
 ext:=λk h h' st kp=>⟨st.1.at λo e=>kp it (.inl rfl) o e,st.2.at λo e=>kp l (.inr rfl) o e⟩
 there:=λk h st=>by
  obtain⟨⟨o,e,c,d⟩,⟨o2,e2,_⟩⟩:=st;exact⟨⟨o,e,λv z=>by rw[d] at z;cases z⟩,o2,e2⟩
section
variable{X:Cx}{pins:List (Addr×Obj)}{σ:St}{H:Hp}{s:Shared}{h':Heap}
theorem aC.turnedN{t':Nat}{ch:List Addr}(I:aC X pins σ H s)(k:∀b o,b∉ch->s.heap.get? b=some o->h'.get? b=some o)(hf:∀b∈ch,FpOk X pins H b):aC X pins σ H {s with heap:=h',toks:=t'}:=by
 have nch:∀b u,H b=some u->b∉ch:=λb u e z=>by rw[(hf b z).1] at e;cases e
 refine I.step (g':=s.gens) (d':=s.drawn) (ch:=ch) (λb hb=>⟨(hf b hb).2.2.2.1,(hf b hb).2.1,(hf b hb).2.2.2.2.1,(hf b hb).2.2.2.2.2⟩) (λb o _ _ hc e _=>k b o hc e) (λb o _ _ hc e _=>⟨o.slots,k b o hc e⟩) (λ_ _ _ _ n=>n)
  (λb o hc e=>⟨o,k b o hc e⟩) (λ_ _ e=>e) (λ_ _ _ e=>e) (λb ps e=>⟨#[],by rw[e];simp⟩) (λm hm=>?_) (λb u e=>?_) I.bare
 ·obtain⟨o,es,ep,ho,r⟩:=hm;exact⟨o,es,ep,k _ o (λz=>(hf _ z).2.1 rfl) ho,r⟩
 ·refine(I.hok b u e).stay (λc v hc q=>k c v ?_ q) (λ_ q=>q) (λ_ _ q=>q) λ_ _ _ q=>q;rcases hc with z|z
  ·rw[z];exact nch b u e
  ·exact nch c _ z
theorem aC.track{a:Addr}{o:HO}(I:aC X pins σ H s)(hf:FpOk X pins H a)(new:ck X.prog X.w (c8 H a o) s.heap a o):aC X pins σ (c8 H a o) s:=by
 have ne:∀b u,H b=some u->b≠a:=λb u e z=>by rw[z,hf.1] at e;cases e
 have z:=I.step (g':=s.gens) (d':=s.drawn) (t':=s.toks) (h':=s.heap) (H':=c8 H a o) (ch:=[a]) (λb hb=>by rw[mem_singleton.mp hb];exact⟨hf.2.2.2.1,hf.2.1,hf.2.2.2.2.1,hf.2.2.2.2.2⟩) (λb o _ _ _ e _=>e) (λb o _ _ _ e _=>⟨o.slots,e⟩)
  (λb u hc _ n=>by rw[av (λz=>hc (by simp[z]))];exact n) (λb o _ e=>⟨o,e⟩) (λb xs e=>by rw[av (ne b _ e)];exact e) (λb u v e=>by rw[av (ne b _ e)];exact e) (λb ps e=>⟨#[],by rw[av (ne b _ e),e];simp⟩) (λm hm=>hm) (λb u e=>?_) I.bare
 ·exact z
 ·by_cases hb:b=a
  ·subst hb;rw[aB] at e;cases e;exact new
  ·rw[av hb] at e;exact(I.hok b u e).stay (λ_ _ _ q=>q) (λc q=>by rw[av (ne c _ q)];exact q) (λc xs q=>by rw[av (ne c _ q)];exact q) λc ob u q=>by rw[av (ne c _ q)];exact q
end
def A8(K:Frag)(H:Hp):Bool->Addr->List V->Prop
 |true,a,xs=>kY K H a xs
 |false,a,xs=>nh K H a xs
def IC(h:Heap):Bool->Addr->Addr->Nat->Prop
 |true,it,l,k=>h.IsListIter it l k
 |false,it,l,k=>h.IsTupleIter it l k
def Kq(h:Heap):Bool->Addr->Array Value->Prop
 |true,l,its=>h.IsList l its
 |false,l,its=>h.IsTuple l its
theorem KW{prog:Program}{w:World}{A:Around}(hh:A.handled=none){it l:Addr}(ne:l≠it)(items:Array Value)(b:Bool):Nx prog w A it l (λk h=>IC h b it l k/\Kq h b l items) (λk=>items[k]?):=by
 cases b with
 |true=>exact G4 hh ne items
 |false=>exact Il hh ne items
theorem aC.seqX{X:Cx}{pins:List (Addr×Obj)}{σ:St}{H:Hp}{s:Shared}{b:Bool}{a:Addr}{xs:List V}(I:aC X pins σ H s)(h:A8 X.K H b a xs):∃its:List Value,Vals xs its/\Kq s.heap b a its.toArray/\a<s.heap.objs.size:=by
 cases b with
 |true=>
  obtain⟨its,r,p,_⟩:=I.list h;refine⟨its,r,p.isList,?_⟩;obtain⟨_,e,_⟩:=p.isList;exact lt_size e
 |false=>
  obtain⟨its,r,p,_⟩:=I.tuple h;refine⟨its,r,p,?_⟩;obtain⟨_,e,_⟩:=p;exact lt_size e
theorem aC.seqX_inj{X:Cx}{pins:List (Addr×Obj)}{σ:St}{H:Hp}{s:Shared}{b:Bool}{a:Addr}{xs ys:List V}(I:aC X pins σ H s)(h:A8 X.K H b a xs)(h':A8 X.K H b a ys):xs=ys:=by
 cases b with
 |true=>exact I.list_inj h h'
 |false=>exact I.tuple_inj h h'
theorem CO{prog:Program}{w:World}{A:Around}(hh:A.handled=none){it l:Addr}(ne:l≠it)(items:Array Value):Draws prog w A it [it,l] items.size (λi v=>items[i]?=some v) (λi h=>h.IsTupleIter it l i/\h.IsTuple l items) where
 live:=λ_ _ st=>by obtain⟨⟨o,e,_⟩,_⟩:=st;exact⟨o,e⟩
 frame:=λ_ _ _ st k=>⟨Heap.IsTupleIter.at st.1 λo e=>k it (by simp) o e,Heap.IsTuple.at st.2 λo e=>k l (by simp) o e⟩
 item:=λi s Q E hi st hQ=>qN st.1 st.2 (Array.getElem?_eq_getElem hi) λg a b=>hQ _ g s.toks (Array.getElem?_eq_getElem hi) ⟨a,st.2.extBut b.extBut ne⟩ b
 done:=λs Q E st hE=>tj hh st.1 st.2 (by simp) hE
theorem Gs{prog:Program}{w:World}{A:Around}(hh:A.handled=none){it l:Addr}(ne:l≠it)(items:Array Value)(b:Bool):Draws prog w A it [it,l] items.size (λi v=>items[i]?=some v) (λi h=>IC h b it l i/\Kq h b l items):=by
 cases b with
 |true=>exact Draws.list hh it l ne items
 |false=>exact CO hh ne items
def Lh(K:Frag)(b:Bool)(l:Addr):It:=
 ⟨λi H=>∃xs x,A8 K H b l xs/\xs[i]?=some x,
  λi H x H'=>∃p u,x=.ref p/\H p=none/\H'=c8 H p (.tup [.int i,u])/\∀xs,A8 K H b l xs->xs[i]?=some u,
  λi H=>∃xs,A8 K H b l xs/\xs.length<=i⟩
theorem Gh{h:Heap}{b:Bool}{it l:Addr}{i:Nat}(j:IC h b it l i):∃o,h.get? it=some o/\∀v,o.data≠.cell v:=by
 cases b with
 |_=>obtain⟨o,e,_,d⟩:=j;exact⟨o,e,λv z=>by rw[d] at z;cases z⟩
theorem IB{h h':Heap}{b:Bool}{it l:Addr}{i:Nat}(j:IC h b it l i)(k:∀o,h.get? it=some o->h'.get? it=some o):IC h' b it l i:=by
 cases b with
 |true=>exact Heap.IsListIter.at j k
 |false=>exact Heap.IsTupleIter.at j k
theorem Bb{P:Program}{w:World}{K:Frag}{elts:List Expr}{kt:Nat}{tp:Pos}(b:Bool)(e it l:Addr)(hei:e≠it)(hle:l≠e)(hli:l≠it):
  D6 P w K (.Tuple elts kt tp) (Lh K b l) [e,it] e (λi h=>(∃old,IsEnum h e it i old)/\IC h b it l i) where
 mem:=by simp
 obj:=λi h ⟨⟨old,he⟩,j⟩ c hc=>by
  rcases mem_cons.mp hc with rfl|hc
  ·exact⟨_,he,λv z=>nomatch z⟩
  ·rw[mem_singleton.mp hc];exact Gh j
 keep:=λi h h' ⟨⟨old,he⟩,j⟩ k=>⟨⟨old,k e (by simp) _ he⟩,IB j λo z=>k it (by simp) o z⟩
 item:=by
  intro X hP hw hK hc i pins s σ H E I hf ⟨⟨old,he⟩,j⟩ ⟨xs,x,q1,hx⟩;subst hP hw hK;obtain⟨t1,r1,p1,lt1⟩:=I.seqX q1;obtain⟨u1,e1,ru1⟩:=r1.get hx;have hi:i<t1.toArray.size:=by
   have:=(List.getElem?_eq_some_iff.mp e1).1;simpa using this
  have W:=WalksT.enumerateD (Gs (prog:=X.prog) (w:=X.w) (A:=X.A.in1) (I.ok.hd hc) hli t1.toArray b) e hei (by simp[hei,Ne.symm hle]) (by simp)
  refine W.item i s _ _ hi ⟨⟨old,he⟩,j,p1⟩ λT vals h' tk ⟨t,v,hv,ev⟩ hT isT mid kp=>?_;have ev1:v=u1:=by
   have:t1[i]?=some v:=by simpa using hv
   rw[e1] at this;exact(Option.some.inj this).symm
  subst ev1;refine⟨_,rfl,W.go elts kt tp i T {s with heap:=h',toks:=tk} _ _ mid λh2 st2 kp2=>?_⟩;have Tn:T∉[e,it]:=W.apart i T h' mid;have I1:aC X pins σ H {s with heap:=h2,toks:=tk}:=I.turnedN (t':=tk) (ch:=[e,it]) (λc o hc z=>kp2 c o hc (kp c o hc z)) hf;have fT:FpOk X pins H T:=I.fpOk hT (I.hok.fresh hT);have I2:aC X pins σ (c8 H T (.tup [.int i,x])) {s with heap:=h2,toks:=tk}:=I1.track fT ⟨by show 2<=sizeLine;decide,[.int i t,v],.cons ⟨t,rfl⟩ (.cons ru1 .nil),by
   rw[ev] at isT;exact Heap.IsTuple.at isT λo z=>kp2 T o Tn z⟩
  refine⟨.ref T,_,I2,rfl,⟨T,x,rfl,fT.1,rfl,λxs' q=>by rw[I.seqX_inj q q1];exact hx⟩,⟨st2.1,st2.2.1⟩,λc hc=>?_⟩
  rw[av]
  ·exact(hf c hc).1
  ·intro z;subst z;exact Tn hc
 done:=by
  intro X hP hw hK hc i pins s σ H E I hf ⟨⟨old,he⟩,j⟩ ⟨xs,q1,hl⟩;subst hP hw hK;obtain⟨t1,r1,p1,lt1⟩:=I.seqX q1;have le1:=r1.length;have hT:s.TypeIs (.ref e) "enumerate" := ⟨_,he,rfl⟩;have N1:=KW (prog:=X.prog) (w:=X.w) (A:=X.A.in1) (I.ok.hd hc) hli t1.toArray b;unfold pyNext;refine wpAny_bind (wpAny_attempt (wpAny_callSpecial?_slot (name:=Str.ofString "__next__") hT F.slot_enumerate_next (wpAny_call_entry F.slot_enumerate_next hT F.entry_enumerate_next ?_ (F.args_enumerate_next_1 _))));show wpAny _ _ (field (.ref e) 2 >>= _) _ _ _;refine wpAny_bind (wpAny_field he rfl (x:=.ref it) rfl (wpAny_bind (N1.stop s i _ _ ⟨j,p1⟩ (by simp;omega) λg z kg ⟨o,ho,hc⟩=>?_)))
  refine wpAny_bind (wpAny_isInstance (T := "StopIteration") (b:=true) ⟨o,ho,hc⟩ isSubtype_stop (wpAny_pure ⟨rfl,I.turnedN (ch:=[e,it]) (t':=s.toks) (λc o hc z=>kg c o ?_ z) hf⟩));intro z;exact hc (by simp[z])
 self:=λA i s Q E st h=>by
  obtain⟨⟨old,he⟩,_⟩:=st;exact wpAny_pyIter_enum he h
abbrev et1(h:Heap)(l:Addr):Heap:=h.push {cls:=.type "tuple_iterator",data:=.fields #[.ref l,.int 0 0]}
abbrev et2(h:Heap)(l:Addr):Heap:=(et1 h l).push {cls:=.type "enumerate",data:=.fields #[.none,.bool false,.ref h.objs.size,rawInt 0,.none,.none]}
theorem qO(l:Addr)(xs:Array Value):
  Meets (Builtin.«enumerate.__new__» ⟨[.type "enumerate",.ref l],[]⟩) (λ_ R s=>s.heap.IsTuple l xs/\R (.ok (.ret (.ref (et1 s.heap l).objs.size))) {s with heap:=et2 s.heap l}):=
 .of_wp λprog w A R s h=>by
  obtain⟨hp,g,d,tk,os⟩:=s;obtain⟨hl,h⟩:=h;have hsub:=sub_enumerate;have q1:Heap.IsTuple (Shared.heap ⟨hp,g,d,tk,os⟩) l xs:=hl
  wp_walk using wpAny_pyIter_tuple q1
  refine wpAny_stack_any λst=>wpAny_pure ?_;split
  ·rename_i c _ _ _ _ _;cases (c == Value.type "enumerate") <;> (wp_walk using wpAny_pyIter_tuple q1;exact⟨_,rfl,h⟩)
  ·wp_walk using wpAny_pyIter_tuple q1;exact⟨_,rfl,h⟩
section
variable{prog:Program}{w:World}{A:Around}{E:Value->Shared->Prop}{s:Shared}
theorem A2{b:Bool}{l:Addr}{xs:Array Value}{Q:Value->Shared->Prop}(h1:Kq s.heap b l xs)
  (h:∀h',IsEnum h' (s.heap.objs.size+1) s.heap.objs.size 0 .none->IC h' b s.heap.objs.size l 0->(∀c o,s.heap.get? c=some o->h'.get? c=some o)->Q (.ref (s.heap.objs.size+1)) {s with heap:=h'}):
  wpAny (model prog w) A (call (.type "enumerate") [.ref l]) Q E s:=by
 cases b with
 |true=>exact call_enumerate_list h1 λh' a1 a2 _ a4=>h h' a1 a2 a4
 |false=>
  refine callType_new F.called_enumerate (by decide) (F.typeCall_enumerate_1 _) (F.newCall_enumerate_1 _) (λobj=>F.args_object_init_2 obj _) F.entry_enumerate_new (qO l xs) ⟨h1,?_⟩
  have n1:(et1 s.heap l).objs.size=s.heap.objs.size+1:=size_push ..;have g2:(et2 s.heap l).get? (et1 s.heap l).objs.size=some _:=get?_push_size _ rfl;have g1:(et2 s.heap l).get? s.heap.objs.size=some _:=get?_push_of_some _ (get?_push_size _ rfl);show _/\_;rw[n1] at g2;rw[n1];exact⟨⟨_,g2,rfl⟩,h _ g2 ⟨_,g1,rfl,rfl⟩ λc o x=>get?_push_of_some _ (get?_push_of_some _ x)⟩
end
section
variable{X:Cx}
theorem D3:bootBuiltins "enumerate" = some (.type "enumerate"):=by decide +kernel
def ID(K:Frag)(ta:TA):TI:=λσ H R=>ta σ H λvs H1=>∃b l,vs=[.ref l]/\(∃xs,A8 K H1 b l xs)/\R (Lh K b l) H1
theorem FN{a:Expr}{ta:TA}{p pos:Pos}{elts:List Expr}{kt:Nat}{tp:Pos}(hg:Gl X "enumerate")(hm:X.mg "enumerate" = none)(ha:PA X [a] ta)(hs:starEach [a] X.env=[(false,eval a X.env)]:=by rfl):
  PI X (.Tuple elts kt tp) (.Call (.Name "enumerate" p) [a] [] pos) (ID X.K ta):=by
 intro pins s σ H R I h;refine Call_ (lD I hg hm D3 (PyProof.Rows.callWith_type1 (dA (ha pos pins s σ H _ I h) λus s1 ⟨vs,H1,I1,r1,b,l,e,⟨xs,q1⟩,q⟩=>?_) hs rfl));subst e;obtain⟨u,rfl,r2⟩:=j0 r1;obtain rfl:u=Value.ref l:=r2;obtain⟨t1,_,p1,lt1⟩:=I1.seqX q1;refine A2 p1 λh' z1 j1 kp=>?_;show wpAny _ _ (pyIter (.ref (s1.heap.objs.size+1))) _ _ _;refine wpAny_pyIter_enum z1 ?_;refine⟨_,_,_,_,H1,rfl,I1.kept (t':=s1.toks) kp,Bb b (s1.heap.objs.size+1) s1.heap.objs.size l (Nat.succ_ne_self _) (ne_of_lt (lt_succ_of_lt lt1)) (ne_of_lt lt1),⟨⟨_,z1⟩,j1⟩,λc hc=>?_,q⟩;have hle:s1.heap.objs.size<=c:=by
  have:c=s1.heap.objs.size+1\/c=s1.heap.objs.size:=by simpa using hc
  rcases this with rfl|rfl
  ·exact Nat.le_add_right _ _
  ·exact le_refl _
 exact I1.fpOk hle (I1.hok.fresh hle)
end
end L2
namespace L2
open PySem
abbrev D7(xs:Array Nat):Prop:=xs.toList.Pairwise (· < ·)
theorem pG{xs:Array Nat}(h:D7 xs){i k:Nat}(hik:i<k)(hk:k<xs.size):xs[i]'(by omega)<xs[k]:=by
 have:=List.pairwise_iff_getElem.mp h i k (by simpa using(by omega:i<xs.size)) (by simpa using hk) hik
 simpa using this
theorem rm{xs:Array Nat}(h:D7 xs)(j:Nat):∀(fuel lo hi:Nat),lo<=hi->hi<=xs.size->hi - lo<=fuel->(∀i (hi':i<xs.size),i<lo->xs[i]<j)->(∀i (hi':i<xs.size),hi<=i->j<=xs[i])->
  SetTable.below.go xs j fuel lo hi<=xs.size/\(∀i (hi':i<xs.size),i<SetTable.below.go xs j fuel lo hi->xs[i]<j)/\∀i (hi':i<xs.size),SetTable.below.go xs j fuel lo hi<=i->j<=xs[i]
 |0,lo,hi,h1,h2,h3,h4,h5=>by
  have e:lo=hi:=by omega
  subst e;exact⟨h2,h4,h5⟩
 |fuel+1,lo,hi,h1,h2,h3,h4,h5=>by
  unfold SetTable.below.go;by_cases hl:lo<hi
  ·rw[if_pos hl];have hm:(lo+hi) / 2<xs.size:=by omega
   have hg:xs.getD ((lo+hi) / 2) j=xs[(lo+hi) / 2]:=by simp[hm]
   dsimp only;rw[hg];by_cases hc:xs[(lo+hi) / 2]<j
   ·rw[if_pos hc];refine rm h j fuel _ _ (by omega) h2 (by omega) (λi hi' hlt=>?_) h5
    by_cases e:i=(lo+hi) / 2
    ·subst e;exact hc
    ·exact lt_trans (pG h (by omega) hm) hc
   ·rw[if_neg hc];refine rm h j fuel _ _ (by omega) (by omega) (by omega) h4 (λi hi' hle=>?_)
    by_cases e:i=(lo+hi) / 2
    ·subst e;omega
    ·have:=pG h (show(lo+hi) / 2<i by omega) hi';omega
  ·rw[if_neg hl];have e:lo=hi:=by omega
   subst e;exact⟨h2,h4,h5⟩
theorem kR{xs:Array Nat}(h:D7 xs)(j:Nat):SetTable.below xs j<=xs.size/\(∀i (hi':i<xs.size),i<SetTable.below xs j->xs[i]<j)/\∀i (hi':i<xs.size),SetTable.below xs j<=i->j<=xs[i]:=by
 unfold SetTable.below;exact rm h j xs.size 0 xs.size (zero_le _) (le_refl _) (by omega) (λ_ _ z=>absurd z (Nat.not_lt_zero _)) (λi hi' z=>absurd hi' (by omega))
theorem A4{xs:Array Nat}(h:D7 xs):SetTable.below xs 0=0:=by
 obtain⟨h1,h2,_⟩:=kR h 0;by_cases e:SetTable.below xs 0=0
 ·exact e
 ·have:=h2 0 (by omega) (by omega)
  omega
theorem A5{xs:Array Nat}(h:D7 xs){i:Nat}(hi:i<xs.size):SetTable.below xs (xs[i]+1)=i+1:=by
 obtain⟨h1,h2,h3⟩:=kR h (xs[i]+1);by_cases l:SetTable.below xs (xs[i]+1)<=i
 ·have:=h3 i hi l;omega
 ·by_cases e:SetTable.below xs (xs[i]+1)=i+1
  ·exact e
  ·have hi1:i+1<xs.size:=by omega
   have a:=h2 (i+1) hi1 (by omega)
   have b:=pG h (i:=i) (k:=i+1) (by omega) hi1
   omega
theorem mE{α:Type}(xs:Array α)(p:Nat)(x:α)(hp:p<=xs.size):(SetTable.insertAt xs p x).toList=xs.toList.take p++x::xs.toList.drop p:=by
 unfold SetTable.insertAt;simp[Array.toList_extract];rw[List.take_of_length_le (by simp)]
theorem jP{α:Type}(xs:Array α)(p:Nat)(x:α)(hp:p<=xs.size):(SetTable.insertAt xs p x).toList.Perm (x::xs.toList):=by
 rw[mE xs p x hp];refine List.perm_middle.trans ?_;rw[List.take_append_drop]
theorem mD{α:Type}(xs:Array α)(p:Nat)(x:α)(hp:p<=xs.size):(SetTable.insertAt xs p x).size=xs.size+1:=by
 rw[←length_toList,(jP xs p x hp).length_eq];simp
structure Tb(t:SetTable)(m:Nat):Prop where
 mask:t.mask=7
 dum:t.dummies=#[]
 plain:t.plain=true
 size:t.place.size=m
 rise:D7 t.place
 le:∀j∈t.place.toList,j<=7
theorem Tb.fits{t:SetTable}{m:Nat}(T:Tb t m)(hm:m<=7):t.fits m=true:=by
 unfold SetTable.fits SetTable.fill;rw[T.size,T.dum,T.mask];simp;omega
theorem Tb.notFull{t:SetTable}{m:Nat}(T:Tb t m)(hm:m<=4):t.tooFull=false:=by
 unfold SetTable.tooFull SetTable.fill;rw[T.size,T.dum,T.mask];simp;omega
theorem Tb.slot{t:SetTable}{m:Nat}(T:Tb t m)(j:Nat):(t.slot j=.empty/\j∉t.place.toList)\/(∃i,t.slot j=.live i)/\j∈t.place.toList:=by
 unfold SetTable.slot;dsimp only;by_cases h:(t.place[SetTable.below t.place j]? == some j)=true
 ·rw[if_pos h];have e:t.place[SetTable.below t.place j]?=some j:=eq_of_beq h;rw[←getElem?_toList] at e;exact .inr ⟨⟨_,rfl⟩,mem_of_getElem? e⟩
 ·rw[if_neg h];have hd:SetTable.has t.dummies j=false:=by rw[T.dum];rfl
  rw[if_neg (by rw[hd];exact Bool.false_ne_true)]
  refine .inl ⟨rfl,λhm=>h ?_⟩;obtain⟨i,hi,e⟩:=List.getElem_of_mem hm;have hi':i<t.place.size:=by simpa using hi
  have e':t.place[i]=j:=by simpa using e
  obtain⟨h1,h2,h3⟩:=kR T.rise j;have hb:SetTable.below t.place j=i:=by
   by_cases l:SetTable.below t.place j<=i
   ·by_cases l2:SetTable.below t.place j=i
    ·exact l2
    ·have hlt:SetTable.below t.place j<t.place.size:=by omega
     have a:=h3 _ hlt (le_refl _);have b:=pG T.rise (show SetTable.below t.place j<i by omega) hi'
     omega
   ·have:=h2 i hi' (by omega);omega
  rw[hb,Array.getElem?_eq_getElem hi',e'];exact beq_self_eq_true _
theorem A3{h:Int}(h0:0<=h)(h1:h<32):SetTable.bits h=h.toNat:=by
 unfold SetTable.bits;rw[Int.emod_eq_of_lt h0 (by omega)]
theorem Gn{l:List Nat}{a b c d:Nat}(hl:l.length<=3)(h1:a∈l)(h2:b∈l)(h3:c∈l)(h4:d∈l)(n:[a,b,c,d].Nodup):False:=by
 have hs:[a,b,c,d] ⊆ l:=by
  intro x hx;simp at hx;rcases hx with rfl|rfl|rfl|rfl <;> assumption
 have:=List.Nodup.length_le_of_subset n hs;simp at this;omega
theorem Tb.free{t:SetTable}{m:Nat}(T:Tb t m)(hm:m<=3){h:Int}(h0:0<=h)(h1:h<32):∃j,t.freeSlot h=some (j,false)/\j<=7/\j∉t.place.toList:=by
 obtain⟨n,rfl⟩:∃n:Nat,h=n:=⟨h.toNat,by omega⟩
 have hb:SetTable.bits (n:Int)=n:=by rw[A3 h0 h1];rfl
 have hn:n<32:=by omega
 have hl:t.place.toList.length<=3:=by rw[length_toList,T.size];exact hm
 have run:∀(i:Nat),SetTable.runEnd t.mask i=i\/7<i:=λi=>by
  unfold SetTable.runEnd;rw[T.mask];by_cases q:i+9<=7
  ·omega
  ·rw[if_neg q];exact .inl rfl
 have hrun:∀i,SetTable.runEnd t.mask i - i=0:=λi=>by
  unfold SetTable.runEnd;rw[T.mask,if_neg (by omega)]
  omega
 have adv:∀(i p:Nat),p / 32=0->t.advance ⟨i,0,i,p,none⟩=⟨(i * 5+1) % 8,0,(i * 5+1) % 8,0,none⟩:=λi p hp=>by
  unfold SetTable.advance SetTable.leap;rw[if_neg (lt_irrefl 0)];dsimp only;rw[hp,hrun,T.mask]
 have step:∀(fuel i p:Nat),p / 32=0->(∃r,SetTable.probe.go t (λ_=>(n:Int)+1) n (fuel+1) ⟨i,0,i,p,none⟩=some r/\r=.empty i none/\i∉t.place.toList)\/(i∈t.place.toList/\SetTable.probe.go t (λ_=>(n:Int)+1) n (fuel+1) ⟨i,0,i,p,none⟩=SetTable.probe.go t (λ_=>(n:Int)+1) n fuel ⟨(i * 5+1) % 8,0,(i * 5+1) % 8,0,none⟩):=λfuel i p hp=>by
  rcases T.slot i with⟨e,ni⟩|⟨⟨k,e⟩,hi⟩
  ·refine .inl ⟨.empty i none,?_,rfl,ni⟩;unfold SetTable.probe.go;dsimp only;rw[e]
  ·refine .inr ⟨hi,?_⟩
   conv=>lhs;unfold SetTable.probe.go
   dsimp only;rw[e];dsimp only;rw[if_neg (by simp;omega),adv i p hp]
 have hps:t.probeStart (n:Int)=⟨n % 8,0,n % 8,n,none⟩:=by
  unfold SetTable.probeStart;dsimp only;rw[hb,hrun,T.mask]
 have fin:∀{j:Nat}{r:SetTable.Met},j<8->SetTable.probe.go t (λ_=>(n:Int)+1) n (10 * SetTable.turns t.mask) ⟨n % 8,0,n % 8,n,none⟩=some r->r=.empty j none->j∉t.place.toList->∃j,t.freeSlot (n:Int)=some (j,false)/\j<=7/\j∉t.place.toList:=λ{j r} hj e er nj=>by
  refine⟨j,?_,by omega,nj⟩
  unfold SetTable.freeSlot SetTable.probe;rw[hps,e,er];rfl
 have hf:10 * SetTable.turns t.mask=216+1+1+1+1:=by unfold SetTable.turns;rw[T.mask]
 rw[hf] at fin;have h8:n % 8<8:=Nat.mod_lt _ (by decide)
 rcases step (216+1+1+1) (n % 8) n (by omega) with⟨r,e,er,nj⟩|⟨i1,e1⟩
 ·exact fin h8 e er nj
 rcases step (216+1+1) ((n % 8 * 5+1) % 8) 0 rfl with⟨r,e,er,nj⟩|⟨i2,e2⟩
 ·exact fin (by omega) (e1.trans e) er nj
 rcases step (216+1) (((n % 8 * 5+1) % 8 * 5+1) % 8) 0 rfl with⟨r,e,er,nj⟩|⟨i3,e3⟩
 ·exact fin (by omega) ((e1.trans e2).trans e) er nj
 rcases step 216 ((((n % 8 * 5+1) % 8 * 5+1) % 8 * 5+1) % 8) 0 rfl with⟨r,e,er,nj⟩|⟨i4,e4⟩
 ·exact fin (by omega) (((e1.trans e2).trans e3).trans e) er nj
 exact(Gn hl i1 i2 i3 i4 (by
  have:n % 8=0\/n % 8=1\/n % 8=2\/n % 8=3\/n % 8=4\/n % 8=5\/n % 8=6\/n % 8=7:=by omega
  rcases this with h|h|h|h|h|h|h|h <;> rw[h] <;> decide)).elim
theorem Tb.put{t:SetTable}{m:Nat}(T:Tb t m){j:Nat}(hj:j<=7)(nj:j∉t.place.toList):Tb (t.put j).1 (m+1)/\(t.put j).2<=m/\(t.put j).1.led=t.led:=by
 obtain⟨h1,h2,h3⟩:=kR T.rise j;have hd:SetTable.has t.dummies j=false:=by rw[T.dum];rfl
 have hz:SetTable.below t.place j<=m:=by rw[←T.size];exact h1
 unfold SetTable.put;dsimp only;rw[if_neg (by rw[hd];exact Bool.false_ne_true)]
 refine⟨⟨T.mask,T.dum,T.plain,?_,?_,λk hk=>?_⟩,hz,rfl⟩
 ·show(SetTable.insertAt t.place (SetTable.below t.place j) j).size=_;rw[mD _ _ _ h1,T.size]
 ·show(SetTable.insertAt t.place (SetTable.below t.place j) j).toList.Pairwise (· < ·);rw[mE _ _ _ h1];refine List.pairwise_append.mpr ⟨List.Pairwise.sublist (List.take_sublist _ _) T.rise,pairwise_cons.mpr ⟨λk hk=>?_,List.Pairwise.sublist (List.drop_sublist _ _) T.rise⟩,λa ha b hb=>?_⟩
  ·obtain⟨i,hi,e⟩:=List.getElem_of_mem hk;rw[getElem_drop] at e;rw[length_drop,length_toList] at hi;have a:=h3 (SetTable.below t.place j+i) (by omega) (by omega)
   have e':t.place[SetTable.below t.place j+i]'(by omega)=k:=by simpa using e
   have:k≠j:=λz=>nj (by rw[←z];exact List.mem_of_mem_drop hk)
   omega
  ·obtain⟨i,hi,e⟩:=List.getElem_of_mem ha;rw[List.getElem_take] at e;rw[length_take,length_toList] at hi;have a1:=h2 i (by omega) (by omega)
   have e':t.place[i]'(by omega)=a:=by simpa using e
   rcases mem_cons.mp hb with rfl|hb
   ·omega
   ·obtain⟨i2,hi2,e2⟩:=List.getElem_of_mem hb;rw[getElem_drop] at e2;rw[length_drop,length_toList] at hi2;have a2:=h3 (SetTable.below t.place j+i2) (by omega) (by omega)
    have e3:t.place[SetTable.below t.place j+i2]'(by omega)=b:=by simpa using e2
    omega
 ·have hk':k∈(SetTable.insertAt t.place (SetTable.below t.place j) j).toList:=hk;have:=(jP _ _ j h1).mem_iff.mp hk';rcases mem_cons.mp this with rfl|z
  ·exact hj
  ·exact T.le k z
theorem Tb.lay{t:SetTable}{m:Nat}(T:Tb t m)(hm:m<=3){h:Int}(h0:0<=h)(h1:h<32)(es:Array (Int×Value))(he:es.size=m)(x:Value):∃es' t',layNew t es h x=(es',t',false,false)/\Tb t' (m+1)/\t'.led=t.led/\es'.toList.Perm ((h,x)::es.toList)/\es'.size=m+1:=by
 obtain⟨j,ej,hj,nj⟩:=T.free hm h0 h1;obtain⟨T',hp,hled⟩:=T.put hj nj;have hsz:(SetTable.insertAt es (t.put j).2 (h,x)).size=m+1:=by rw[mD _ _ _ (by omega),he]
 have hfit:=T'.fits (by omega)
 refine⟨SetTable.insertAt es (t.put j).2 (h,x),(t.put j).1,?_,T',hled,jP _ _ _ (by omega),hsz⟩
 unfold layNew;rw[ej];dsimp only;rw[hsz,hfit];unfold SetTable.orStandIn;rw[hfit];rfl
theorem t5{α:Type}(next:Nat->Nat):∀(fuel k:Nat)(left:List α)(out:Array α),left.length=fuel->(pickOrder.go next fuel k left out).toList.Perm (out.toList++left)
 |0,k,left,out,h=>by
  have:left=[]:=List.length_eq_zero_iff.mp h;subst this;unfold pickOrder.go;simp
 |fuel+1,k,left,out,h=>by
  unfold pickOrder.go;have hlt:next k % left.length<left.length:=Nat.mod_lt _ (by omega)
  rw[getElem?_eq_getElem hlt];dsimp only;refine(t5 next fuel (k+1) _ _ (by rw[List.length_eraseIdx_of_lt hlt];omega)).trans ?_
  rw[Array.toList_push,append_assoc];refine List.Perm.append_left _ ?_;have e:left=left.take (next k % left.length)++left[next k % left.length]::left.drop (next k % left.length+1):=by
   rw[←List.drop_eq_getElem_cons hlt,List.take_append_drop]
  rw[List.eraseIdx_eq_take_drop_succ]
  conv=>rhs;rw[e]
  rw[List.singleton_append];exact List.perm_middle.symm
theorem qt{α:Type}(next:Nat->Nat)(xs:Array α):(pickOrder next xs).toList.Perm xs.toList:=by
 have:=t5 next xs.size 0 xs.toList #[] (by simp)
 simpa [pickOrder] using this
end L2
namespace L2
open PySem PySem.Spec PyProof.Rows
inductive EsK:List (Int×Value)->List Int->Prop
 |nil:EsK [] []
 |cons (k:Int) (tk:Tok) {es ks}:EsK es ks->EsK ((hashInt k,.int k tk)::es) (k::ks)
theorem EsK.length{es:List (Int×Value)}{ks:List Int}(h:EsK es ks):es.length=ks.length:=by
 induction h with
 |nil=>rfl
 |cons k tk _ ih=>rw[length_cons,length_cons,ih]
theorem EsK.perm{es es':List (Int×Value)}(p:es'.Perm es):∀{ks:List Int},EsK es ks->∃ks',EsK es' ks'/\ks'.Perm ks:=by
 have q:=p.symm;clear p
 induction q with
 |nil=>intro ks h;cases h;exact⟨[],.nil,.refl _⟩
 |cons x _ ih=>
  intro ks h;cases h with
  |cons k tk t=>obtain⟨ks',e,p⟩:=ih t;exact⟨k::ks',.cons k tk e,p.cons k⟩
 |swap x y l=>
  intro ks h;cases h with
  |cons k tk t=>cases t with
   |cons k2 tk2 t2=>exact⟨k2::k::_,.cons k2 tk2 (.cons k tk t2),List.Perm.swap _ _ _⟩
 |trans _ _ ih1 ih2=>
  intro ks h;obtain⟨k1,e1,p1⟩:=ih1 h;obtain⟨k2,e2,p2⟩:=ih2 e1;exact⟨k2,e2,p2.trans p1⟩
theorem EsK.elems{prog:Program}{w:World}{es:List (Int×Value)}{ks:List Int}(h:EsK es ks):ElemsOf (intKind prog w) es:=by
 induction h with
 |nil=>intro e he;cases he
 |cons k tk _ ih=>
  intro e he;rcases mem_cons.mp he with rfl|he
  ·exact⟨⟨k,by simp[intKind,Value.isInt],rfl⟩,rfl⟩
  ·exact ih e he
theorem EsK.find{es:List (Int×Value)}{ks:List Int}(h:EsK es ks)(k:Int):(es.findIdx? λe=>Value.isInt k e.2).isSome=decide (k∈ks):=by
 induction h with
 |nil=>rfl
 |cons k' tk _ ih=>
  rw[List.findIdx?_cons];by_cases e:k=k'
  ·subst e;simp[Value.isInt]
  ·have:Value.isInt k (Value.int k' tk)=false:=by simp[Value.isInt,Ne.symm e,e]
   simp only[this];rw[if_neg Bool.false_ne_true,Option.isSome_map,ih];simp[e]
theorem EsK.ints{es:List (Int×Value)}{ks:List Int}(h:EsK es ks):IntsAre (es.map (·.2)) ks:=by
 induction h with
 |nil=>exact .nil
 |cons k tk _ ih=>exact .cons k tk ih
def SetX(w:World)(h:Heap)(a:Addr)(ks:List Int):Prop:=∃o es ep t ks',h.get? a=some o/\o.ExactSet/\o.data=.set es ep t/\EsK es.toList ks'/\ks'.Perm ks/\Tb t es.size/\t.led=!w.params.followText "set-order"
theorem SetX.at{w:World}{h h':Heap}{a:Addr}{ks:List Int}(S:SetX w h a ks)(k:∀o,h.get? a=some o->h'.get? a=some o):SetX w h' a ks:=by
 obtain⟨o,es,ep,t,ks',ho,r⟩:=S;exact⟨o,es,ep,t,ks',k o ho,r⟩
theorem EF:∀n:Fin 32,hashInt ((n.val:Nat):Int)=((n.val:Nat):Int):=by decide +kernel
theorem qU{k:Int}(h0:0<=k)(h1:k<32):hashInt k=k:=by
 have h:=EF ⟨k.toNat,by omega⟩
 rwa[show(((⟨k.toNat,by omega⟩:Fin 32).val:Nat):Int)=k from Int.toNat_of_nonneg h0] at h
section
variable{prog:Program}{w:World}{A:Around}{E:Value->Shared->Prop}{s:Shared}
theorem Du{a:Addr}{ks:List Int}{k:Int}{tk:Tok}{Q:Bool->Shared->Prop}(S:SetX w s.heap a ks)(h0:0<=k)(h1:k<32)(hl:ks.length<=4)(hl2:k∉ks->ks.length<=3)
  (h:∀h' b,Heap.SameBut a s.heap h'->SetX w h' a (if k∈ks then ks else k::ks)->Q b {s with heap:=h',toks:=s.toks+1}):wpAny (model prog w) A (setAdd a (.int k tk)) Q E s:=by
 obtain⟨o,es,ep,t,ks',ho,hex,hd,hes,hp,T,hled⟩:=S;have hsz:es.size=ks.length:=by rw[←length_toList,hes.length,hp.length_eq]
 have hf:=T.fits (by omega)
 have hel:ElemsOf (intKind prog w) es.toList:=hes.elems;have hkey:(intKind prog w).is k (.int k tk)=true:=by simp[intKind,Value.isInt]
 unfold setAdd;refine wpAny_holding (wpAny_bind ((intKind prog w).pyHash hkey ?_));unfold setAddHashed setAddHashedIn;refine wpAny_holding (wpAny_bind (wpAny_setState_of ho hd hf ?_));dsimp only;rw[byScan_of (knd:=intKind prog w) rfl (by unfold scanBound;omega) hel,if_pos rfl]
 unfold setAddByScan;refine wpAny_bind (wpAny_bind (wpAny_rule (wpAny_bind (wpAny_setScan_of (s:={s with toks:=s.toks+1}) hkey ho hd hf hel ?_))));have hfi:=hes.find k;have hfi':∀r,es.toList.findIdx? (λe=>(intKind prog w).is k e.2)=r->r.isSome=decide (k∈ks'):=λr e=>by rw[←e];exact hfi
 have hmem:k∈ks'↔k∈ks:=hp.mem_iff;cases hr:es.toList.findIdx? (λe=>(intKind prog w).is k e.2) with
 |some j=>
  have hk:k∈ks:=hmem.mp (by have:=hfi' _ hr;simpa using this.symm)
  dsimp only;refine wpAny_pure (wpAny_pure (h s.heap false (Heap.SameBut.refl a s.heap) ?_));rw[if_pos hk];exact⟨o,es,ep,t,ks',ho,hex,hd,hes,hp,T,hled⟩
 |none=>
  have hk:k∉ks:=λz=>by have:=hfi' _ hr;rw[decide_eq_true (hmem.mpr z)] at this;cases this
  have h3:=hl2 hk;obtain⟨es',t',el,T',hl',hpm,hsz'⟩:=T.lay (by omega) (h:=hashInt k) (by rw[qU h0 h1];exact h0) (by rw[qU h0 h1];exact h1) es rfl (.int k tk)
  have el':layNew t es ((intKind prog w).hash k) (.int k tk)=(es',t',false,false):=el;dsimp only;rw[el'];dsimp only;refine wpAny_bind ?_;show wpAny _ _ (pure ()) _ _ _;refine wpAny_pure ?_;rw[T'.plain,if_pos rfl,hashByValue_scannable 8 rfl];refine wpAny_bind (wpAny_pure ?_);rw[if_pos (show plainKind (Value.int k tk)=true from rfl)];refine wpAny_bind (wpAny_storeSet_of (s:={s with toks:=s.toks+1}) ho hd ?_ (by rw[hsz',sizeLine_eq];omega))
  rw[T'.notFull (by omega)]
  simp only[Bool.not_false,Bool.and_false,Bool.false_eq_true,if_false];refine wpAny_pure (wpAny_pure (h _ true (Heap.SameBut.update s.heap a (Obj.putSet es' t')) ?_));rw[if_neg hk];obtain⟨ks2,e2,p2⟩:=EsK.perm hpm (.cons k tk hes);have hg:(s.heap.update a (Obj.putSet es' t')).get? a=some {o with data:=.set es' (ep+1) t'}:=by
   have z:=Heap.get?_update_self (Obj.putSet es' t') ho (by rw[putSet_of es' t' hd];rfl)
   rw[putSet_of es' t' hd] at z;exact z
  exact⟨_,es',ep+1,t',ks2,hg,hex,rfl,e2,p2.trans (hp.cons k),by rw[hsz'];exact T',by rw[hl'];exact hled⟩
end
structure Fh(prog:Program)(w:World)(ns:List Int)(SY:Heap->Addr->List Int->Prop):Prop where
 stay:∀{h h':Heap}{a:Addr}{ks:List Int},SY h a ks->(∀o,h.get? a=some o->h'.get? a=some o)->SY h' a ks
 there:∀{h:Heap}{a:Addr}{ks:List Int},SY h a ks->∃o,h.get? a=some o
 fresh:∀{h:Heap}{a:Addr},h.get? a=some {cls:=.type "set",dict:=none,data:=.set #[] 0 (.fresh 0 0 (!w.params.followText "set-order"))}->SY h a []
 add:∀{A:Around}{E:Value->Shared->Prop}{s:Shared}{a:Addr}{ks:List Int}{k:Int}{tk:Tok}{Q:Bool->Shared->Prop},SY s.heap a ks->k∈ns->ks.length<ns.length->
  (∀h' b,Heap.SameBut a s.heap h'->SY h' a (if k∈ks then ks else k::ks)->Q b {s with heap:=h',toks:=s.toks+1})->wpAny (model prog w) A (setAdd a (.int k tk)) Q E s
section
variable{prog:Program}{w:World}{A:Around}{E:Value->Shared->Prop}{s:Shared}{SY:Heap->Addr->List Int->Prop}
theorem Bo{R:Result->Shared->Prop}{S I l:Addr}{items:Array Value}{ns:List Int}(hh:A.in1.handled=none)(hli:l≠I)(hSI:S≠I)(hSl:S≠l)(hi:IntsAre items.toList ns)(G:Fh prog w ns SY):
  ∀(k i:Nat)(s:Shared)(ks:List Int),items.size - i=k->i<=items.size->s.heap.IsListIter I l i->s.heap.IsList l items->SY s.heap S ks->ks.length<=i->(∀n,n∈ks↔n∈ns.take i)->ks.Nodup->
   (∀h' tk ks',(∀b o,b≠S->b≠I->s.heap.get? b=some o->h'.get? b=some o)->SY h' S ks'->(∀n,n∈ks'↔n∈ns)->ks'.Nodup->R (.ok (.ret .none)) {s with heap:=h',toks:=tk})->
   codeAny (model prog w) A (.builtin "set.update.loop" ⟨[.ref S,.ref I],[]⟩) R s:=by
 have hlen:items.size=ns.length:=by rw[←length_toList];exact hi.length
 have W:=Walks.list (prog:=prog) (w:=w) hh I l hli items;intro k
 induction k with
 |zero=>
  intro i s ks hk hile st hl S1 hkl hm nd hR;obtain rfl:i=items.size:=by omega
  refine codeAny_builtin PyProof.Rows.F.entry_set_update_loop ?_;rw[Around.under_plainId PyProof.Rows.F.plain_set_update_loop _];refine wpAny_bind (m:=pyNext (.ref I)) (W.done s _ _ ⟨st,hl⟩ λh' tk kp=>?_);refine wpAny_pure (hR h' tk ks (λb o _ hb e=>kp b o (by simpa using hb) e) (G.stay S1 λo e=>kp S o (by simpa using hSI) e) (λn=>?_) nd)
  rw[hm n,hlen,List.take_length]
 |succ k ih=>
  intro i s ks hk hile st hl S1 hkl hm nd hR;have hlt:i<items.size:=by omega
  refine codeAny_builtin PyProof.Rows.F.entry_set_update_loop ?_;rw[Around.under_plainId PyProof.Rows.F.plain_set_update_loop _];refine wpAny_bind (m:=pyNext (.ref I)) (W.item i s _ _ hlt ⟨st,hl⟩ λv h' tk hv st' kp=>?_);obtain⟨t,rfl⟩:=PyProof.Rows.IntsAre.int_at hi i v (by rw[getElem?_toList];exact hv)
  have hmem:ns.getD i 0∈ns:=by rw[getD_eq_getElem?_getD,getElem?_eq_getElem (by omega)];exact getElem_mem _
  have S2:SY h' S ks:=G.stay S1 λo e=>kp S o (by simpa using hSI) e
  refine wpAny_bind (m:=holding _ _) (wpAny_holding (G.add (s:={s with heap:=h',toks:=tk}) S2 hmem (by omega) λh2 b sb S3=>?_))
  refine wpAny_pure ⟨plainId_quiet PyProof.Rows.F.plain_set_update_loop _,ih (i+1) _ _ (by omega) hlt ?_ ?_ S3 ?_ ?_ ?_ λh3 tk3 ks3 kp3 S4 m4 n4=>?_⟩
  ·exact st'.1.extBut sb.extBut (Ne.symm hSI)
  ·exact st'.2.extBut sb.extBut (Ne.symm hSl)
  ·split
   ·omega
   ·rw[length_cons];omega
  ·intro n;have htake:ns.take (i+1)=ns.take i++[ns.getD i 0]:=by
    rw[List.take_add_one,getElem?_eq_getElem (by omega),getD_eq_getElem?_getD,getElem?_eq_getElem (by omega)]
    rfl
   rw[htake,mem_append,mem_singleton,←hm n];split
   ·rename_i hin;constructor
    ·exact .inl
    ·rintro (z|rfl)
     ·exact z
     ·exact hin
   ·rw[mem_cons,or_comm]
  ·split
   ·exact nd
   ·rename_i hin;exact nodup_cons.mpr ⟨hin,nd⟩
  ·refine hR h3 tk3 ks3 (λb o hb1 hb2 e=>kp3 b o hb1 hb2 (sb.extBut b o hb1 (kp b o (by simpa using hb2) e))) S4 m4 n4
theorem Dt(a:Value){Q₁:Value->Shared->Prop}(h:Q₁ (.ref s.heap.objs.size) {s with heap:=s.heap.push {cls:=.type "set",dict:=none,data:=.set #[] 0 (.fresh 0 0 (!w.params.followText "set-order"))}}):
  codeAny (model prog w) A (.call (.builtin "set.__new__") ⟨[.type "set",a],[]⟩) (wants Q₁ E) s:=by
 refine codeAny_of_tree (wpAny_bind (m:=checkBuiltinCall "set.__new__" ⟨[.type "set",a],[]⟩) (wpAny_of_eq (PySem.F.newCall_set_1 a) (wpAny_pure ⟨plainId_quiet PySem.F.plain_set_new _,codeAny_builtin PySem.F.entry_set_new ?_⟩)));rw[Around.under_plainId PySem.F.plain_set_new _];unfold Builtin.«set.__new__» Builtin.Frozenset.newClass;have hsub:=sub_set_self;obtain⟨hp,g,d,tk,os⟩:=s;dsimp only;wp_walk;refine wpAny_askSetting (wpAny_pure ?_);dsimp only;simp only[newObj];exact wpAny_bind (wpAny_alloc (wpAny_pure (wpAny_pure h)))
set_option maxHeartbeats 4000000 in
theorem CY{l:Addr}{items:Array Value}{ns:List Int}{Q:Value->Shared->Prop}(hh:A.handled=none)(hl:s.heap.IsList l items)(hi:IntsAre items.toList ns)(G:Fh prog w ns SY)
  (h:∀(h':Heap)(tk:Nat)(ks:List Int),SY h' s.heap.objs.size ks->(∀n,n∈ks↔n∈ns)->ks.Nodup->(∀b o,s.heap.get? b=some o->h'.get? b=some o)->Q (.ref s.heap.objs.size) {s with heap:=h',toks:=tk}):
  wpAny (model prog w) A (call (.type "set") [.ref l]) Q E s:=by
 obtain⟨c,tl,hmro⟩:=PySem.F.called_set.mro;have hmade:=PySem.F.called_set.made;have hsub:=PySem.F.called_set.sub;refine wpAny_call (codeAny_of_tree ?_);show wpAny _ _ (callAny (.type "set") _) _ _ _;refine wpAny_pure ⟨Code.quiet_builtin _ (by decide +kernel),codeAny_builtin PySem.F.entry_type_call ?_⟩
 rw[Around.under_plain (weight_type_call_type "set" [.ref l] []) rfl];have h1:=PySem.F.called_set.notType;have h2:=PySem.F.called_set.canCreate;have hct:=PySem.F.typeCall_set_1 (.ref l)
 repeat (any_goals (first|assumption|wp_step))
 generalize hO:({cls:=.type "set",dict:=none,data:=.set #[] 0 (.fresh 0 0 (!w.params.followText "set-order"))}:Obj)=O0;refine codeAny_mono (Dt (.ref l) (E:=E) (Q₁:=λobj s₁=>obj=.ref s.heap.objs.size/\s₁={s with heap:=s.heap.push O0}) (by rw[hO];exact⟨rfl,rfl⟩)) λr s₁ hr1=>?_
 cases r with
 |error e=>exact hr1
 |ok fl=>cases fl with
  |ret obj=>
   obtain⟨rfl,rfl⟩:=hr1;have hS:(s.heap.push O0).get? s.heap.objs.size=some O0:=get?_push_size _ (by rw[←hO];rfl)
   have hT:Shared.TypeIs {s with heap:=s.heap.push O0} (.ref s.heap.objs.size) "set" := ⟨_,hS,by rw[←hO]⟩
   have hli:=PySem.F.called_set.init.lookup;have hbi:=PySem.F.called_set.init.bind (.ref s.heap.objs.size)
   repeat (any_goals (first|assumption|wp_step))
   refine codeAny_mono (codeAny_call_builtin (R:=wants (λr s₂=>r=.none/\∃h' tk ks,s₂={s with heap:=h',toks:=tk}/\SY h' s.heap.objs.size ks/\(∀n,n∈ks↔n∈ns)/\ks.Nodup/\∀b o,s.heap.get? b=some o->h'.get? b=some o) E) PySem.F.called_set.init.plain PySem.F.entry_set_init (check_set_init_1 hT ?_)) λr₂ s₂ hr₂=>?_
   ·obtain⟨⟨oc,od,odt,osl⟩,hol,hcl,nl,hdl⟩:=hl
    replace hcl:oc=.type "list" := hcl
    replace hdl:odt=.seq items nl:=hdl
    subst hcl hdl;have hol':(s.heap.push O0).get? l=some _:=get?_push_of_some _ hol;have hsls:=PySem.F.sub_list_set;have hslf:=PySem.F.sub_list_frozenset;have hne:(Value.type "list" == Value.type "dict")=false:=by decide
    have hl1:(s.heap.push O0).IsList l items:=⟨_,hol',rfl,nl,rfl⟩;have hlS:l<s.heap.objs.size:=lt_size hol;have hS0:(s.heap.push O0).get? s.heap.objs.size=some {cls:=.type "set",dict:=none,data:=.set #[] 0 (.fresh 0 0 (!w.params.followText "set-order"))}:=by rw[hO];exact hS
    unfold Builtin.«set.__init__» noKeywords Builtin.Frozenset.updateFrom;generalize hPI:pyIter=PI;subst hO;wp_walk;subst hPI;refine wpAny_pyIter_list hl1 (wpAny_bind (wpAny_runValue ?_));have n1:(s.heap.push {cls:=.type "set",dict:=none,data:=.set #[] 0 (.fresh 0 0 (!w.params.followText "set-order"))}).objs.size=s.heap.objs.size+1:=size_push ..;have hit:((s.heap.push {cls:=.type "set",dict:=none,data:=.set #[] 0 (.fresh 0 0 (!w.params.followText "set-order"))}).push {cls:=.type "list_iterator",data:=.fields #[.ref l,.int 0 0]}).get? (s.heap.objs.size+1)=some {cls:=.type "list_iterator",data:=.fields #[.ref l,.int 0 0]}:=by rw[←n1];exact get?_push_size _ rfl
    rw[n1];refine Bo (I:=s.heap.objs.size+1) (by simp[hh]) (ne_of_lt (lt_succ_of_lt hlS)) (ne_of_lt (lt_succ_self _)) (ne_of_gt hlS) hi G (items.size - 0) 0 _ [] rfl (zero_le _) ⟨_,hit,rfl,rfl⟩ (hl1.push _) (G.fresh (get?_push_of_some _ hS0)) (le_refl _) (λn=>by simp) .nil λh' tk ks kp S1 m1 nd=>?_
    refine wpAny_pure (wpAny_pure ⟨rfl,h',tk,ks,rfl,S1,m1,nd,λb o e=>?_⟩);have hb:=lt_size e;exact kp b o (ne_of_lt hb) (ne_of_lt (lt_succ_of_lt hb)) (get?_push_of_some _ (get?_push_of_some _ e))
   ·cases r₂ with
    |error e=>exact hr₂
    |ok fl₂=>cases fl₂ with
     |ret r=>
      obtain⟨rfl,h',tk,ks,rfl,S1,m1,nd,kp⟩:=hr₂
      repeat (any_goals (first|assumption|wp_step))
      exact h _ _ ks S1 m1 nd kp
     |_=>exact hr₂.elim
  |_=>exact hr1.elim
end
theorem yt{w:World}{h:Heap}{a:Addr}(e:h.get? a=some {cls:=.type "set",dict:=none,data:=.set #[] 0 (.fresh 0 0 (!w.params.followText "set-order"))}):SetX w h a []:=
 ⟨_,#[],0,_,[],e,⟨rfl,rfl,rfl⟩,rfl,.nil,.refl _,⟨rfl,rfl,rfl,rfl,.nil,λj hj=>by cases hj⟩,rfl⟩
theorem Ho{prog:Program}{w:World}{ns:List Int}(hr:∀n∈ns,0<=n/\n<32)(h4:ns.length<=4):Fh prog w ns (SetX w) where
 stay:=SetX.at
 there:=λ⟨o,_,_,_,_,e,_⟩=>⟨o,e⟩
 fresh:=yt
 add:=λS hk hl h=>Du S (hr _ hk).1 (hr _ hk).2 (by omega) (λ_=>by omega) h
def SetN(prog:Program)(w:World)(h:Heap)(a:Addr)(ks:List Int):Prop:=h.SetOf (intKind prog w) a (λk=>decide (k∈ks)) ks.length
theorem Hq{prog:Program}{w:World}{ns:List Int}(h4:ns.length<=32):Fh prog w ns (SetN prog w) where
 stay:=λ⟨o,es,ep,t,e,r⟩ k=>⟨o,es,ep,t,k o e,r⟩
 there:=λ⟨o,_,_,_,e,_⟩=>⟨o,e⟩
 fresh:=λe=>⟨_,#[],0,_,e,⟨rfl,rfl,rfl⟩,rfl,λ_ h=>(nomatch h),λk=>by simp,by decide,rfl,rfl⟩
 add:=λ{A E s a ks k tk Q} S hk hl h=>by
  have hkey:(intKind prog w).is k (.int k tk)=true:=by simp[intKind,Value.isInt]
  unfold setAdd;refine wpAny_holding (wpAny_bind ((intKind prog w).pyHash hkey ?_));refine wpAny_setAddHashed_of (s:={s with toks:=s.toks+1}) hkey rfl S (by unfold scanBound;omega) λh' sb S'=>h h' _ sb ?_
  have e1:(λk'=>decide (k'∈ks) || decide (k'=k))=λk'=>decide (k'∈if k∈ks then ks else k::ks):=by
   funext k';by_cases hm:k∈ks
   ·rw[if_pos hm];by_cases hk':k'=k
    ·subst hk';simp[hm]
    ·simp[hk']
   ·rw[if_neg hm];simp[mem_cons,Bool.or_comm]
  have e2:(if decide (k∈ks)=true then ks.length else ks.length+1)=(if k∈ks then ks else k::ks).length:=by
   by_cases hm:k∈ks
   ·simp[hm]
   ·simp[hm]
  rw[e1,e2] at S';exact S'
theorem jT:Slot "set_iterator" "__next__" "set_iterator.__next__" := .of (owner := "set_iterator") (n := "__next__") (by rw[typeLookup_type,builtinLookup_eq_fast];kernel_rfl) (by decide +kernel) (by decide +kernel) (by decide +kernel) (by first|exact .inl (by decide +kernel)|exact .inr (by decide +kernel)) (by rw[isSubtype_type];kernel_rfl)
theorem xN:entryFor table "set_iterator.__next__" = some Builtin.«set_iterator.__next__»:=entryFor_of_tree (by kernel_rfl)
theorem zT:entryFor table "set.__iter__" = some Builtin.«frozenset.__iter__»:=entryFor_alias (id' := "frozenset.__iter__") (by kernel_rfl) rfl (by decide +kernel) (by kernel_rfl)
theorem y4(a:Value):argsOk "set_iterator.__next__" ⟨[a],[]⟩:=by unfold argsOk;kernel_rfl
def pA(h:Heap)(a:Addr)(es:Array (Int×Value))(ep:Nat)(t:SetTable):Prop:=∃o,h.get? a=some o/\o.ExactSet/\o.data=.set es ep t
def jd(w:World)(a:Addr)(es:Array (Int×Value))(ep:Nat):Array (Int×Value):=if w.params.followText "set-order" = true then pickOrder (w.params.setOrder a ep) es else es
theorem qC(w:World)(a:Addr)(es:Array (Int×Value))(ep:Nat):(jd w a es ep).toList.Perm es.toList:=by
 unfold jd;split
 ·exact qt _ _
 ·exact .refl _
def markOf(w:World)(t:SetTable)(i:Nat):Nat:=if w.params.followText "set-order" = true then 0 else if i=0 then 0 else t.place.getD (i - 1) 0+1
abbrev tx(a:Addr)(slot i n ep:Nat):Obj:={cls:=.type "set_iterator",dict:=none,data:=.fields #[rawInt slot,rawInt i,.ref a,rawInt n,rawInt ep],slots:=#[]}
section
variable{prog:Program}{w:World}{A:Around}{E:Value->Shared->Prop}{s:Shared}{a it:Addr}{es:Array (Int×Value)}{ep:Nat}{t:SetTable}
theorem pA.state(S:pA s.heap a es ep t)(hf:t.fits es.size=true){Q:(Array (Int×Value)×Nat×SetTable)->Shared->Prop}(h:Q (es,ep,t) s):wpAny (model prog w) A (setState a) Q E s:=by
 obtain⟨o,ho,_,hd⟩:=S;exact wpAny_setState_of ho hd hf h
theorem Bp{Q:Value->Shared->Prop}(S:pA s.heap a es ep t)(T:Tb t es.size)(hm:es.size<=4)(h:Q (.ref s.heap.objs.size) {s with heap:=s.heap.push (tx a 0 0 es.size ep)}):wpAny (model prog w) A (pyIter (.ref a)) Q E s:=by
 have hf:=T.fits (by omega)
 obtain⟨o,ho,hex,hd⟩:=id S;have hT:s.TypeIs (.ref a) "set" := ⟨o,ho,hex.1⟩;refine wpAny_pyIter_slot hT PySem.F.slot_set_iter (wpAny_call_entry PySem.F.slot_set_iter hT zT ?_ (PySem.F.args_set_iter_1 _));unfold Builtin.«frozenset.__iter__»;rw[show Builtin.Frozenset.slot0 "__iter__" ⟨[.ref a],[]⟩=pure a from rfl];refine wpAny_bind (wpAny_pure (wpAny_bind (m:=Builtin.Frozenset.sizeOf a) ?_));unfold Builtin.Frozenset.sizeOf setEntries;refine wpAny_bind (wpAny_bind (S.state hf (wpAny_pure (wpAny_pure (wpAny_bind (m:=setDrawn a) ?_)))));unfold setDrawn setsByText;refine wpAny_bind (S.state hf ?_);dsimp only;refine wpAny_bind (wpAny_bind (wpAny_askSetting (wpAny_pure (wpAny_pure ?_))));show wpAny _ _ (if(!w.params.followText "set-order" && (!t.plain && decide (es.size > 1)))=true then _ else _) _ _ _;rw[T.plain,if_neg (by simp)]
 refine wpAny_bind (wpAny_pure (wpAny_bind (m:=setEpoch a) ?_));unfold setEpoch;refine wpAny_bind (S.state hf (wpAny_pure (wpAny_bind (m:=newFields _ _) ?_)));unfold newFields;refine wpAny_newObj_type (wpAny_pure ⟨_,rfl,"set_iterator",_,⟨_,get?_push_size _ rfl,rfl⟩,jT.lookup,h⟩) (by size_fits)
theorem zt(T:Tb t es.size)(hw:w.params.followText "set-order" = false){i:Nat}(hi:i<=es.size):SetTable.below t.place (markOf w t i)=i:=by
 unfold markOf;rw[if_neg (by rw[hw];exact Bool.false_ne_true)]
 by_cases h0:i=0
 ·subst h0;rw[if_pos rfl];exact A4 T.rise
 ·rw[if_neg h0];have hlt:i - 1<t.place.size:=by rw[T.size];omega
  have:=A5 T.rise hlt;rw[Array.getD_eq_getD_getElem?,Array.getElem?_eq_getElem hlt,Option.getD_some,this];omega
theorem Am{Q:Option (Value×Nat)->Shared->Prop}{i:Nat}(S:pA s.heap a es ep t)(T:Tb t es.size)(hm:es.size<=4)(hled:t.led=!w.params.followText "set-order")(hi:i<=es.size)
  (h:Q ((jd w a es ep)[i]?.map λe=>(e.2,markOf w t (i+1))) s):wpAny (model prog w) A (setNext a (markOf w t i) i ep) Q E s:=by
 have hf:=T.fits (by omega)
 unfold setNext setsByText;refine wpAny_bind (S.state hf ?_);dsimp only;refine wpAny_bind (wpAny_bind (wpAny_askSetting (wpAny_pure ?_)));cases hw:w.params.followText "set-order" with
 |true=>
  show wpAny _ _ (if w.params.followText "set-order" = true then _ else _) _ _ _;rw[if_pos hw];simp only[bne_self_eq_false,Bool.false_eq_true,if_false];unfold setWalk setsByText;refine wpAny_bind (wpAny_bind (S.state hf ?_));dsimp only;refine wpAny_bind (wpAny_bind (wpAny_askSetting (wpAny_pure ?_)));show wpAny _ _ (if w.params.followText "set-order" = true then _ else _) _ _ _;rw[if_pos hw];refine wpAny_bind (wpAny_askSetting (wpAny_pure (wpAny_pure ?_)));have e1:jd w a es ep=pickOrder (w.params.setOrder a ep) es:=by unfold jd;rw[if_pos hw]
  have e2:∀j,markOf w t j=0:=λj=>by unfold markOf;rw[if_pos hw]
  rw[e1,e2] at h;rw[e2];exact h
 |false=>
  show wpAny _ _ (if w.params.followText "set-order" = true then _ else _) _ _ _;rw[if_neg (by rw[hw];exact Bool.false_ne_true)]
  show wpAny _ _ (if(!t.plain && decide (es.size > 1))=true then _ else _) _ _ _;rw[T.plain,if_neg (by simp)]
  refine wpAny_bind ?_;show wpAny _ _ (if(!t.led && !es.isEmpty)=true then _ else _) _ _ _;rw[hled,hw,if_neg (by simp)]
  refine wpAny_pure (wpAny_pure ?_);rw[zt T hw hi];have e1:jd w a es ep=es:=by unfold jd;rw[if_neg (by rw[hw];exact Bool.false_ne_true)]
  rw[e1] at h;by_cases hlt:i<es.size
  ·have hp:i<t.place.size:=by rw[T.size];exact hlt
   rw[Array.getElem?_eq_getElem hlt] at h ⊢;rw[Array.getElem?_eq_getElem hp];have e2:markOf w t (i+1)=t.place[i]+1:=by
    unfold markOf;rw[if_neg (by rw[hw];exact Bool.false_ne_true),if_neg (by omega),Nat.add_sub_cancel,Array.getD_eq_getD_getElem?,Array.getElem?_eq_getElem hp,Option.getD_some]
   rw[e2] at h;exact h
  ·rw[Array.getElem?_eq_none (by omega)] at h ⊢
   exact h
theorem qB:(jd w a es ep).size=es.size:=by rw[←length_toList,(qC w a es ep).length_eq,length_toList]
theorem Bn{Q:Option Value->Shared->Prop}{i:Nat}{v:Value}(S:pA s.heap a es ep t)(T:Tb t es.size)(hm:es.size<=4)(hled:t.led=!w.params.followText "set-order")(hit:s.heap.get? it=some (tx a (markOf w t i) i es.size ep))(hi:i<es.size)(hv:((jd w a es ep)[i]?.map (·.2))=some v)
  (h:∀h',h'.get? it=some (tx a (markOf w t (i+1)) (i+1) es.size ep)->Heap.SameBut it s.heap h'->Q (some v) {s with heap:=h'}):wpAny (model prog w) A (pyNext (.ref it)) Q E s:=by
 have hf:=T.fits (by omega)
 have hT:s.TypeIs (.ref it) "set_iterator" := ⟨_,hit,rfl⟩;unfold pyNext;refine wpAny_bind (wpAny_attempt (wpAny_callSpecial?_slot (name:=Str.ofString "__next__") hT jT (wpAny_call_entry jT hT xN ?_ (y4 _))));unfold Builtin.«set_iterator.__next__»;rw[show slotArgs "__next__" 0 ⟨[.ref it],[]⟩=pure (.ref it,[]) from rfl];refine wpAny_bind (wpAny_pure (wpAny_bind (wpAny_fieldsOf hit rfl ?_)));show wpAny _ _ (setEntries a >>= _) _ _ _;unfold setEntries;refine wpAny_bind (wpAny_bind (S.state hf (wpAny_pure ?_)));show wpAny _ _ (if(((es.size:Nat):Int) != ((es.size:Nat):Int))=true then _ else _) _ _ _;rw[if_neg (by simp)]
 show wpAny _ _ (setNext a ((markOf w t i:Nat):Int).toNat ((i:Nat):Int).toNat ((ep:Nat):Int).toNat >>= _) _ _ _;rw[toNat_natCast,toNat_natCast,toNat_natCast];refine wpAny_bind (Am S T hm hled (by omega) ?_)
 cases ho:(jd w a es ep)[i]? with
 |none=>rw[ho] at hv;cases hv
 |some e=>
  rw[ho] at hv;cases hv;show wpAny _ _ (setField (.ref it) 0 (rawInt ((markOf w t (i+1):Nat):Int)) >>= _) _ _ _;refine wpAny_bind (wpAny_setField_rec hit (by simp) λh1 i1 s1=>?_)
  refine wpAny_bind (wpAny_setField_rec (s:={s with heap:=h1}) i1 (by simp) λh2 i2 s2=>?_)
  exact wpAny_pure ⟨_,rfl,wpAny_pure (h h2 i2 (s1.trans s2))⟩
theorem Bq{Q:Option Value->Shared->Prop}(hh:A.handled=none)(S:pA s.heap a es ep t)(T:Tb t es.size)(hm:es.size<=4)(hled:t.led=!w.params.followText "set-order")(hit:s.heap.get? it=some (tx a (markOf w t es.size) es.size es.size ep))
  (h:∀h',Heap.ExtBut it s.heap h'->Q none {s with heap:=h'}):wpAny (model prog w) A (pyNext (.ref it)) Q E s:=by
 have hf:=T.fits (by omega)
 have hT:s.TypeIs (.ref it) "set_iterator" := ⟨_,hit,rfl⟩;unfold pyNext;refine wpAny_bind (wpAny_attempt (wpAny_callSpecial?_slot (name:=Str.ofString "__next__") hT jT (wpAny_call_entry jT hT xN ?_ (y4 _))));unfold Builtin.«set_iterator.__next__»;rw[show slotArgs "__next__" 0 ⟨[.ref it],[]⟩=pure (.ref it,[]) from rfl];refine wpAny_bind (wpAny_pure (wpAny_bind (wpAny_fieldsOf hit rfl ?_)));show wpAny _ _ (setEntries a >>= _) _ _ _;unfold setEntries;refine wpAny_bind (wpAny_bind (S.state hf (wpAny_pure ?_)));show wpAny _ _ (if(((es.size:Nat):Int) != ((es.size:Nat):Int))=true then _ else _) _ _ _;rw[if_neg (by simp)]
 show wpAny _ _ (setNext a ((markOf w t es.size:Nat):Int).toNat ((es.size:Nat):Int).toNat ((ep:Nat):Int).toNat >>= _) _ _ _;rw[toNat_natCast,toNat_natCast,toNat_natCast];refine wpAny_bind (Am S T hm hled (le_refl _) ?_);rw[Array.getElem?_eq_none (by rw[qB];exact le_refl _)]
 show wpAny _ _ (setField (.ref it) 2 Value.none >>= _) _ _ _;refine wpAny_bind (wpAny_setField_rec hit (by simp) λh1 i1 s1=>?_)
 refine wpAny_bind ?_;simp only[newExc,newTuple];refine wpAny_bind (wpAny_newObj_type ?_ (by size_fits))
 refine wpAny_bind (m:=firstArgMember _ _) (wpAny_of_eq (a:=Value.none) (by first|rfl|(simp only[firstArgMember];rfl)) ?_);refine wpAny_newObj_type ?_ (by size_fits);simp only[raiseNew]
 refine wpAny_bind (wpAny_handled ?_);first|rw[show A.in1.handled=none from hh]|rw[hh]
 refine wpAny_bind (wpAny_pure (wpAny_throw ?_));refine wpAny_bind (wpAny_isInstance (T := "StopIteration") (b:=true) ⟨_,get?_push_size _ rfl,rfl⟩ isSubtype_stop ?_);exact wpAny_pure (h _ ((s1.extBut.push _).push _))
end
theorem sS:Slot "set_iterator" "__iter__" "set_iterator.__iter__" := .of (owner := "set_iterator") (n := "__iter__") (by rw[typeLookup_type,builtinLookup_eq_fast];kernel_rfl) (by decide +kernel) (by decide +kernel) (by decide +kernel) (by first|exact .inl (by decide +kernel)|exact .inr (by decide +kernel)) (by rw[isSubtype_type];kernel_rfl)
theorem CM:entryFor table "set_iterator.__iter__" = some Builtin.«dict_keyiterator.__iter__»:=entryFor_alias (id' := "dict_keyiterator.__iter__") (by kernel_rfl) rfl (by decide +kernel) (by kernel_rfl)
theorem D4(a:Value):argsOk "set_iterator.__iter__" ⟨[a],[]⟩:=by unfold argsOk;kernel_rfl
section
variable{prog:Program}{w:World}{A:Around}{E:Value->Shared->Prop}{s:Shared}{a:Addr}{es:Array (Int×Value)}{ep:Nat}{t:SetTable}
theorem pA.at{h h':Heap}(S:pA h a es ep t)(k:∀o,h.get? a=some o->h'.get? a=some o):pA h' a es ep t:=by
 obtain⟨o,ho,r⟩:=S;exact⟨o,k o ho,r⟩
theorem yg(hh:A.handled=none)(T:Tb t es.size)(hm:es.size<=4)(hled:t.led=!w.params.followText "set-order")(it:Addr)(ne:a≠it):
  Walks prog w A it [it,a] [it] es.size (λi v=>((jd w a es ep)[i]?.map (·.2))=some v) (λi h=>h.get? it=some (tx a (markOf w t i) i es.size ep)/\pA h a es ep t) where
 sub:=λb hb=>by rw[mem_singleton.mp hb];simp
 frame:=λi h h' st k=>⟨k it (by simp) _ st.1,st.2.at λo e=>k a (by simp) o e⟩
 item:=λi s Q E hi st hQ=>by
  have hlt:i<(jd w a es ep).size:=by rw[qB];exact hi
  refine Bn (v:=(jd w a es ep)[i].2) st.2 T hm hled st.1 hi (by rw[Array.getElem?_eq_getElem hlt];rfl) λh' i1 sb=>?_
  exact hQ _ h' s.toks (by rw[Array.getElem?_eq_getElem hlt];rfl) ⟨i1,st.2.at λo e=>sb.extBut _ _ ne e⟩ λb o hb e=>sb.extBut b o (by simpa using hb) e
 done:=λs Q E st hQ=>Bq hh st.2 T hm hled st.1 λh' kp=>hQ h' s.toks λb o hb e=>kp b o (by simpa using hb) e
 self:=λi s Q E st h=>by
  have hT:s.TypeIs (.ref it) "set_iterator" := ⟨_,st.1,rfl⟩;refine wpAny_pyIter_slot hT sS (wpAny_call_entry sS hT CM (wpAny_pure ⟨_,rfl,"set_iterator",_,hT,jT.lookup,h⟩) (D4 _))
theorem EE(hT:s.TypeIs (.ref a) "set"){Q:Bool->Shared->Prop}(h:Q false s):wpAny (model prog w) A (Builtin.List.listLengthHint (.ref a)) Q E s:=by
 unfold Builtin.List.listLengthHint;refine wpAny_bind (wpAny_specialOf hT PySem.F.slot_set_len.lookup ?_);generalize hid:("set.__len__" : String)=id0;wp_delta;rw[show splitId id0=some ("set","__len__") from by subst hid;decide +kernel];subst hid
 refine wpAny_bind (wpAny_isInstance (T := "set") (b:=true) hT (by rw[isSubtype_type];kernel_rfl) (wpAny_ite_split (λhab=>absurd hab (by decide)) (λ_=>wpAny_ite_split (λ_=>?_) (λhab=>absurd (by decide +kernel) hab))))
 exact wpAny_bind (wpAny_typeOf hT (wpAny_pure h))
theorem Eu(T:Tb t es.size)(hm:es.size<=4)(hled:t.led=!w.params.followText "set-order"):KdlSrc prog w "set" a a es.size (λi v=>((jd w a es ep)[i]?.map (·.2))=some v) (λh=>pA h a es ep t) where
 type:=λs S=>by obtain⟨o,ho,hex,_⟩:=S;exact⟨o,ho,hex.1⟩
 there:=λh S=>by obtain⟨o,ho,_⟩:=S;exact⟨lt_size ho,lt_size ho⟩
 keep:=λh h' S k=>S.at λo e=>k a (.inl rfl) o e
 notList:=by decide
 notTuple:=by decide
 hint:=λA E s Q S hq=>by obtain⟨o,ho,hex,_⟩:=S;exact EE ⟨o,ho,hex.1⟩ hq
 iter:=λA s hh S=>by
  have hlt:a<s.heap.objs.size:=by obtain⟨o,ho,_⟩:=S;exact lt_size ho
  refine⟨tx a 0 0 es.size ep,_,λE Q hq=>Bp S T hm hq,yg hh T hm hled _ (ne_of_lt hlt),?_,S.at λo e=>get?_push_of_some _ e⟩;have:markOf w t 0=0:=by unfold markOf;split <;> rfl
  rw[this];exact get?_push_size _ rfl
theorem vv{es es':List Value}(p:es'.Perm es):∀{ks:List Int},IntsAre es ks->∃ks',IntsAre es' ks'/\ks'.Perm ks:=by
 have q:=p.symm;clear p
 induction q with
 |nil=>intro ks h;cases h;exact⟨[],.nil,.refl _⟩
 |cons x _ ih=>
  intro ks h;cases h with
  |cons k tk t=>obtain⟨ks',e,p⟩:=ih t;exact⟨k::ks',.cons k tk e,p.cons k⟩
 |swap x y l=>
  intro ks h;cases h with
  |cons k tk t=>cases t with
   |cons k2 tk2 t2=>exact⟨k2::k::_,.cons k2 tk2 (.cons k tk t2),List.Perm.swap _ _ _⟩
 |trans _ _ ih1 ih2=>
  intro ks h;obtain⟨k1,e1,p1⟩:=ih1 h;obtain⟨k2,e2,p2⟩:=ih2 e1;exact⟨k2,e2,p2.trans p1⟩
theorem F3{T:String}{r d:Addr}{n:Nat}{P:Nat->Value->Prop}{OK:Heap->Prop}{R:List Value->Shared->Prop}(K:KdlSrc prog w T r d n P OK)(hh:A.handled=none)(hok:OK s.heap)(hn:n<=sizeLine)
  (h:∀(h':Heap)(tk:Nat)(acc:Array Value),(∀b o,s.heap.get? b=some o->h'.get? b=some o)->s.heap.objs.size<h'.objs.size->ItemsOf P acc n->R acc.toList {s with heap:=h',toks:=tk}):wpAny (model prog w) A (collect (.ref r)) R E s:=by
 obtain⟨hr,hd⟩:=K.there _ hok;unfold collect;refine wpAny_bind (wpAny_runValue (codeAny_builtin entry_proto_collect' ?_));rw[Around.under_plainId PySem.F.plain_proto_collect _];refine wpAny_bind (m:=newList []) (wpAny_newObj_type (wpAny_pure ⟨plainId_quiet PySem.F.plain_list_iadd _,codeAny_builtin entry_list_iadd' ?_⟩));rw[Around.under_plainId PySem.F.plain_list_iadd _];have e0:(s.heap.push {cls:=.type "list",data:=.seq ([]:List Value).toArray}).get? s.heap.objs.size=some {cls:=.type "list",data:=.seq #[]}:=get?_push_size _ rfl;have fin:∀(q:Result)(s':Shared),(∃(h':Heap)(tk:Nat)(acc:Array Value)(c:Nat),q=.ok (.ret (.ref s.heap.objs.size))/\s'={s with heap:=h',toks:=tk}/\(∀b o,s.heap.get? b=some o->h'.get? b=some o)/\h'.get? s.heap.objs.size=some {cls:=.type "list",dict:=none,data:=.seq acc c,slots:=#[]}/\ItemsOf P acc n)->∃v,q=.ok (.ret v)/\wpAny (model prog w) A (match v with|.ref a=>(do match (←load a).data with|.seq xs _=>pure xs.toList|_=>unsupported "internal:collect")|_=>unsupported "internal:collect") R E s':=by
  rintro q s' ⟨h',tk,acc,c,rfl,rfl,kp,e,it⟩
  exact⟨_,rfl,wpAny_bind (wpAny_load e (wpAny_pure (h h' tk acc kp (lt_size e) it)))⟩
 have key:=PySem.W.kdl_extend (A:=A) (s:={s with heap:=s.heap.push {cls:=.type "list",data:=.seq ([]:List Value).toArray}}) (R:=λq s'=>∃(h':Heap)(tk:Nat)(acc:Array Value)(c:Nat),q=.ok (.ret (.ref s.heap.objs.size))/\s'={s with heap:=h',toks:=tk}/\(∀b o,s.heap.get? b=some o->h'.get? b=some o)/\h'.get? s.heap.objs.size=some {cls:=.type "list",dict:=none,data:=.seq acc c,slots:=#[]}/\ItemsOf P acc n)
  K hh (K.keep _ _ hok λb _ o e=>get?_push_of_some _ e) s.heap.objs.size (ne_of_gt hr) (ne_of_gt hd) (.ref s.heap.objs.size) 0 e0 (λh' tk acc c kp e it=>⟨h',tk,acc,c,rfl,rfl,λb o q=>kp b o (ne_of_lt (lt_size q)) (get?_push_of_some _ q),e,it⟩) hn
 refine wpAny_mono key (λfn s' x=>?_) (λe s' x=>by obtain⟨_,_,_,_,z,_⟩:=x;cases z)
 cases fn with
 |done f=>obtain⟨v,e,z⟩:=fin _ _ x;cases e;exact z
 |again c=>exact⟨x.1,codeAny_mono x.2 λq s2 y=>by obtain⟨v,e,z⟩:=fin _ _ y;subst e;exact z⟩
theorem vF{ks:List Int}{Q:Value->Shared->Prop}(hh:A.handled=none)(S:SetX w s.heap a ks)(hk:ks.length<=4)
  (h:∀(h':Heap)(tk:Nat)(out:List Value)(ns:List Int)(D:Addr)(n:Nat),IntsAre out ns->ns.Perm ks->ns.Pairwise (·<=·)->(∀b o,s.heap.get? b=some o->h'.get? b=some o)->s.heap.objs.size<=D->h'.get? D=some {cls:=.type "list",data:=.seq out.toArray n}->Q (.ref D) {s with heap:=h',toks:=tk}):
  wpAny (model prog w) A (call (.builtin "sorted") [.ref a]) Q E s:=by
 obtain⟨o,es,ep,t,ks',ho,hex,hd,hes,hp,T,hled⟩:=S;have hsz:es.size=ks.length:=by rw[←length_toList,hes.length,hp.length_eq]
 have S1:pA s.heap a es ep t:=⟨o,ho,hex,hd⟩;refine Calls.call_function_entry kind_sorted plain_sorted entry_sorted (args_sorted1 _) ?_;unfold Builtin.«sorted»;refine wpAny_bind (m:=checkCount "sorted" 1 1 _) (wpAny_pure (wpAny_bind (F3 (A:=A.in1) (Eu T (by omega) hled) hh S1 (by rw[sizeLine_eq];omega) λh1 tk acc kp hlt0 hacc=>?_)))
 have hperm:(acc.toList).Perm (es.toList.map (·.2)):=by
  have e:acc.toList=(jd w a es ep).toList.map (·.2):=by
   refine ext_getElem? λi=>?_;rw[getElem?_map,getElem?_toList,getElem?_toList];by_cases hi:i<acc.size
   ·have:=hacc.2 i acc[i] (Array.getElem?_eq_getElem hi);rw[Array.getElem?_eq_getElem hi,this]
   ·rw[Array.getElem?_eq_none (by omega),Array.getElem?_eq_none (by rw[qB,←hacc.1];omega)]
    rfl
  rw[e];exact(qC w a es ep).map _
 obtain⟨k1,hints,pk⟩:∃k1,IntsAre acc.toList k1/\k1.Perm ks:=by
  obtain⟨k1,e1,p1⟩:=vv hperm hes.ints;exact⟨k1,e1,p1.trans hp⟩
 have hal:acc.toList.length<=4:=by rw[hints.length,pk.length_eq];exact hk
 refine wpAny_bind (wpAny_newList ?_ (by rw[sizeLine_eq];omega))
 have hoL:(h1.push {cls:=.type "list",data:=.seq acc.toList.toArray}).get? h1.objs.size=some (seqObj "list" acc.toList.toArray 0):=get?_push_size _ rfl;refine wpAny_bind (wpAny_holding (wpAny_call_entry (s:={s with heap:=h1.push {cls:=.type "list",data:=.seq acc.toList.toArray},toks:=tk}) slot_list_sort ⟨_,hoL,rfl⟩ entry_list_sort (list_sort_tree hoL hints (by omega) λout ns' i1 p2 so=>⟨_,rfl,?_⟩) (args_list_sort _)))
 obtain⟨e,he⟩:=sortedHeap_at (out:=out) hoL;have hle:s.heap.objs.size<=h1.objs.size:=le_of_lt hlt0;refine wpAny_pure ⟨_,rfl,h _ _ out.toList ns' h1.objs.size e i1 (p2.trans pk) so (λb o hb=>?_) hle (by simpa [seqObj] using he)⟩
 have hb1:=kp b o hb;have hlt:=lt_size hb1;rw[sortedHeap_old (ne_of_lt hlt) (by rw[size_push];exact lt_succ_of_lt hlt)]
 exact get?_push_of_some _ hb1
end
section
variable{X:Cx}
def few(ns:List Int):Prop:=ns.length<=4/\∀n∈ns,0<=n/\n<32
def JC(w:World)(a:Addr)(ks:List Int):HO:=.ext λh=>SetX w h a ks
theorem rj(hc:X.calm=true)(SY:Heap->Addr->List Int->Prop):dD X (.type "set") (λxs H Q=>∃(p:Addr)(ns:List Int),xs=[.ref p]/\kY X.K H p (ns.map V.int)/\Fh X.prog X.w ns SY/\∀(a:Addr)(ks:List Int),H a=none->(∀n,n∈ks↔n∈ns)->ks.Nodup->Q (.ref a) (c8 H a (.ext λh=>SY h a ks))):=λpins s σ H xs us Q I rs ⟨p,ns,ex,sq,G,q⟩=>by
 subst ex;obtain⟨u,rfl,r2⟩:=j0 rs;obtain rfl:u=Value.ref p:=r2;obtain⟨its,rv,pl,hz⟩:=I.list sq;refine CY (I.ok.hd hc) pl.isList (by simpa using zH rv) G λh' tk ks S m nd kp=>?_
 exact⟨.ref s.heap.objs.size,_,I.laid (o:=.ext λh=>SY h s.heap.objs.size ks) (t':=tk) kp (le_refl _) ⟨S,G.there S,λh1 h2 S1 k=>G.stay S1 k⟩,rfl,q _ ks (I.hok.fresh (le_refl _)) m nd⟩
theorem CZ(hc:X.calm=true):dD X (.type "set") (λxs H Q=>∃(p:Addr)(ns:List Int),xs=[.ref p]/\kY X.K H p (ns.map V.int)/\few ns/\∀(a:Addr)(ks:List Int),H a=none->(∀n,n∈ks↔n∈ns)->ks.Nodup->Q (.ref a) (c8 H a (JC X.w a ks))):=
 λpins s σ H xs us Q I rs ⟨p,ns,ex,sq,fw,q⟩=>rj hc (SetX X.w) pins s σ H xs us Q I rs ⟨p,ns,ex,sq,Ho fw.2 fw.1,q⟩
theorem D2:dD X (.builtin "len") (λxs H Q=>∃(a:Addr)(ks:List Int),xs=[.ref a]/\H a=some (.ext λh=>SetN X.prog X.w h a ks)/\ks.length<=32/\Q (.int ks.length) H):=λpins s σ H xs us Q I rs ⟨a,ks,ex,ea,hk,q⟩=>by
 subst ex;obtain⟨u,rfl,r2⟩:=j0 rs;obtain rfl:u=Value.ref a:=r2;obtain⟨⟨o,es,ep,t,ho,hex,hd,hel,hm,hb,hf,hn⟩,_,_⟩:SetN X.prog X.w s.heap a ks/\_:=I.hok a _ ea;refine call_len_set ho hex hd hf (by omega) ⟨.int ks.length,H,I.tok _,⟨s.toks+1,by rw[hn]⟩,q⟩
theorem pR:∀{us:List Value}{ns:List Int},IntsAre us ns->Vals (ns.map V.int) us
 |_,_,.nil=>.nil
 |_,_,.cons n t r=>.cons ⟨t,rfl⟩ (pR r)
theorem vG(hc:X.calm=true):dD X (.builtin "sorted") (λxs H Q=>∃(a:Addr)(ks:List Int),xs=[.ref a]/\H a=some (JC X.w a ks)/\ks.length<=4/\∀(l:Addr)(ns:List Int),H l=none->ns.Perm ks->ns.Pairwise (·<=·)->Q (.ref l) (c8 H l (.lst (ns.map V.int)))):=λpins s σ H xs us Q I rs ⟨a,ks,ex,ea,hk,q⟩=>by
 subst ex;obtain⟨u,rfl,r2⟩:=j0 rs;obtain rfl:u=Value.ref a:=r2;obtain⟨S,_,_⟩:SetX X.w s.heap a ks/\_:=I.hok a _ ea;refine vF (I.ok.hd hc) S hk λh' tk out ns D n it pm so kp hD e=>?_;refine⟨.ref D,_,I.laid (o:=.lst (ns.map V.int)) (t':=tk) kp hD ⟨?_,out,n,pR it,e⟩,rfl,q D ns (I.hok.fresh hD) pm so⟩;rw[length_map,pm.length_eq,sizeLine_eq];omega
theorem tY:bootBuiltins "set" = some (.type "set"):=by decide +kernel
theorem vL:bootBuiltins "sorted" = some (.builtin "sorted"):=by decide +kernel
end
end L2
namespace L2
open PySem PySem.Spec PyProof.Rows PySem.W
section
variable{X:Cx}{pins:List (Addr×Obj)}{σ:St}{s:Shared}
theorem aC.drop{H0:Hp}{it:Addr}{φ:Heap->Prop}(I:aC X pins σ (c8 H0 it (.ext φ)) s)(hn:H0 it=none):aC X pins σ H0 s:=by
 have ne:∀b u,H0 b=some u->b≠it:=λb u e z=>by rw[z,hn] at e;cases e
 have ne2:∀b u,c8 H0 it (.ext φ) b=some u->(∀ψ,u≠.ext ψ)->H0 b=some u:=λb u e hu=>by
  by_cases z:b=it
  ·subst z;rw[aB] at e;cases e;exact absurd rfl (hu φ)
  ·rwa[av z] at e
 refine I.un (h':=s.heap) (t':=s.toks) ⟨λb o q _ _ _=>q,λb o q _ _ _=>⟨o.slots,q⟩,λb o q n _=>?_,λb o q _=>⟨o,q⟩,λb xs q=>ne2 b _ q (λψ z=>nomatch z),λb o u q=>ne2 b _ q (λψ z=>nomatch z),λb ps q=>⟨#[],by rw[ne2 b _ q (λψ z=>nomatch z)];simp⟩⟩ λb u e=>?_
 ·by_cases z:b=it
  ·rw[z];exact hn
  ·rwa[av z] at n
 ·have q:=I.hok b u (by rw[av (ne b u e)];exact e)
  exact q.stay (λc v _ r=>r) (λc r=>ne2 c _ r (λψ z=>nomatch z)) (λc xs r=>ne2 c _ r (λψ z=>nomatch z)) λc ob u r=>ne2 c _ r (λψ z=>nomatch z)
end
theorem rA{p q:Pos}{c cv:Value}:∀(l:List Value),TriplesOk l->codeAmong p (l++[rawInt q.line,rawInt q.col,c])=some cv->codeAmong p l=some cv\/((q.line=p.line/\q.col=p.col)/\cv=c)
 |[],_,h=>by
  have h':(if(q.line:Int) == (p.line:Int) && (q.col:Int) == (p.col:Int) then some c else none)=some cv:=h;split at h'
  ·rename_i hh;cases h';simp at hh;exact .inr ⟨⟨by have:=hh.1;omega,by have:=hh.2;omega⟩,rfl⟩
  ·cases h'
 |.int a x::.int b y::d::rest,t,h=>by
  have t':TriplesOk rest:=t;have h':(if a == p.line && b == p.col then some d else codeAmong p (rest++[rawInt q.line,rawInt q.col,c]))=some cv:=h;show(if a == p.line && b == p.col then some d else codeAmong p rest)=some cv\/_;split at h'
  ·rename_i hh;rw[if_pos hh];exact .inl h'
  ·rename_i hh;rw[if_neg hh];exact rA rest t' h'
structure lS where
 params:Arguments
 body:Expr
 scope:Scope
 qual:Str
 par:Str
 fv:List Str
abbrev lS.obj(L:lS)(clos:List (Str×Addr))(pm:Value)(c:Addr)(ctv:Value):Obj:=kla_obj "<lambda>" L.qual L.params L.body L.scope clos pm c ctv
def ya(mg:Str->Option Value)(h:Heap):Prop:=
 ∃bm o,mg "__builtins__" = some (.ref bm)/\bm≠builtinsNs/\bm≠mainGlobals/\h.get? bm=some o/\o.cls=.type "module" /\ o.dict=some builtinsNs/\o.data=.plain
def vP(good:Pos->Option Str):Prop:=∀p q:Pos,p.line=q.line->p.col=q.col->good p=good q
def KB(L:lS)(P:Addr)(good:Pos->Option Str)(clos:List (Str×Addr)):TE:=λ_ H Q=>H P=some (.tab good)/\
 ∀(H0:Hp)(a:Addr)(pm:Value)(c:Addr)(ctv:Value),Same H H0->H0 a=none->Q (.ref a) (c8 H0 a (.frz (L.obj clos pm c ctv) (.fnc c L.qual)))
section
variable{X:Cx}
theorem HR{L:lS}{P c:Addr}{good:Pos->Option Str}{clos:List (Str×Addr)}{pos:Pos}(hgp:vP good)(hC:CodeHd X.base c P)(hcode:X.env.code=.ref c)(hB:ya X.mg X.base)(hq:X.env.qual ++ "<lambda>" = L.qual)(hg:good pos=some L.qual)
  (hcl:closureFor L.scope X.env=pure clos) (hdef:defaultsOf L.params X.env=([],[])):PE X (.Lambda L.params L.body L.scope pos) (KB L P good clos):=by
 intro pins s σ H Q I ⟨hP,h⟩;refine kla_eval hdef ?_;rw[hq];obtain⟨ps,eP,tr,hgood⟩:=I.hok P _ hP;obtain⟨bm,ob,b1,b2,b3,b4,b5,b6,b7⟩:=hB;have nP:∀b o,X.base.get? b=some o->b≠P:=λb o e z=>by
  have:=(I.bs b o e).2;rw[z,hP] at this;cases this
 have hgP:mainGlobals≠P:=by
  obtain⟨o,es,ep,e,_⟩:=I.mod.glob;exact nP _ _ e
 have hB':s.heap.BuiltinsAt X.mg P:=⟨bm,ob,b1,b2,b3,nP _ _ b4,I.bk _ _ b4,b5,b6,b7⟩;have hG:s.heap.Ns mainGlobals X.mg:=I.mod.glob.keeps I.bk;cases hc:codeAmong pos ps.toList with
 |none=>
  refine kla_makeFunction (mg:=X.mg) hcl I.ok.glob hG hcode (hC.keeps I.bk) eP tr hc hgP hB' λc' ctv h' tk hx hge hlt hrec htb=>?_;obtain⟨c₂,oc,vs,t,e2,hoc,hd,hv⟩:=hrec;cases e2;have f1:H c'=none:=I.hok.fresh hge;have cP:c'≠P:=λz=>by rw[z,hP] at f1;cases f1
  have s1:Same H (c8 H c' (.frz oc (.own c'))):=λb u e=>by rw[av (aG e f1)];exact e
  have sz:s.heap.objs.size<=h'.objs.size:=le_of_lt (Nat.lt_of_le_of_lt hge hlt);have ok1:lV X.prog X.w (c8 H c' (.frz oc (.own c'))) h':=λb u e=>by
   by_cases hb:b=c'
   ·subst hb;rw[aB] at e;cases e;exact⟨hoc,⟨oc,hoc⟩⟩
   ·rw[av hb] at e;by_cases hbP:b=P
    ·subst hbP;rw[hP] at e;cases e;refine⟨_,htb,?_,λp cv hgp' hcv=>?_⟩
     ·rw[Array.toList_append];exact TriplesOk_snoc _ _ _ _ tr
     ·rw[Array.toList_append] at hcv;rcases rA _ tr hcv with z|⟨⟨z1,z2⟩,z3⟩
      ·obtain⟨c2,oc2,q2,vs2,t2,r1,r2,r3⟩:=hgood p cv hgp' z;exact⟨c2,oc2,q2,vs2,t2,r1,s1 _ _ r2,r3⟩
      ·exact⟨c',oc,L.qual,vs,t,z3,aB,by rw[←hgp pos p z1 z2];exact hg,hd,hv⟩
    ·refine(I.hok b u e).stay (λx v hxb q=>hx x v (λz=>?_) q) (λx q=>s1 _ _ q) (λx xs q=>s1 _ _ q) λx o v q=>s1 _ _ q;rcases hxb with z'|z'
     ·exact hbP (z'.symm.trans z)
     ·rw[z,hP] at z';cases z'
  have I1:aC X pins σ (c8 H c' (.frz oc (.own c'))) {s with heap:=h',toks:=tk}:=I.un (t':=tk) ⟨λb o q n _ _=>hx b o (λz=>by rw[z,hP] at n;cases n) q,
    λb o q n _ _=>⟨o.slots,hx b o (λz=>by rw[z,hP] at n;cases n) q⟩,λb o q n _=>by rw[av (ne_of_lt (lt_of_lt_of_le (lt_size q) hge))];exact n,λb o q _=>by
     by_cases hb:b=P
     ·subst hb;exact⟨_,htb⟩
     ·exact⟨o,hx b o hb q⟩,λb xs q=>s1 _ _ q,λb o u q=>s1 _ _ q,λb qs q=>⟨#[],by rw[s1 _ _ q];simp⟩⟩ ok1
  have f2:c8 H c' (.frz oc (.own c')) h'.objs.size=none:=I1.hok.fresh (le_refl _);exact⟨.ref h'.objs.size,_,I1.laid (o:=.frz (L.obj clos ((X.mg "__name__").getD .none) c' ctv) (.fnc c' L.qual)) (λb u q=>get?_push_of_some _ q) (le_refl _)
   ⟨get?_push_size _ rfl,⟨_,get?_push_size _ rfl⟩,oc,vs,t,by rw[av (ne_of_lt hlt),aB],hd,hv⟩,rfl,h _ _ _ _ _ s1 f2⟩
 |some cv=>
  obtain⟨c',oc,q,vs,t,rfl,hc',hgq,hd,hv⟩:=hgood pos cv (by rw[hg];rfl) hc
  rw[hg] at hgq;cases hgq;refine kla_makeFunctionHit (mg:=X.mg) hcl I.ok.glob hG hcode (hC.keeps I.bk) eP tr hc hB' λctv h' tk hk hsz=>?_;have f2:H h'.objs.size=none:=I.hok.fresh hsz;have ne:c'≠h'.objs.size:=aG hc' f2;exact⟨.ref h'.objs.size,_,I.laid (o:=.frz (L.obj clos ((X.mg "__name__").getD .none) c' ctv) (.fnc c' L.qual)) (t':=tk) (λb u q=>get?_push_of_some _ (hk b u q)) hsz
   ⟨get?_push_size _ rfl,⟨_,get?_push_size _ rfl⟩,oc,vs,t,by rw[av ne];exact hc',hd,hv⟩,rfl,h _ _ _ _ _ (.refl _) f2⟩
end
theorem kq:∀(names:List (Str×NameKind))(n:Nat)(acc:List (Str×Addr)),cellsFrom n names acc=cellsFrom n names []++acc
 |[],_,_=>rfl
 | (x,k)::r,n,acc=>by
  unfold cellsFrom;split
  ·rw[kq r (n+1) ((x,n)::acc),kq r (n+1) [(x,n)],append_assoc];rfl
  ·exact kq r n acc
theorem kN{α:Type}{x:Str}:∀{l m:List (Str×α)},(l++m).lookup x=(match l.lookup x with|some c=>some c|none=>m.lookup x)
 |[],m=>rfl
 | (y,c)::l,m=>by
  rw[List.cons_append,lookup_cons,lookup_cons];cases x == y with
  |true=>rfl
  |false=>exact kN
structure Lq(s₀:Shared)(env:Env)(clos:List (Str×Addr))(x:Str)(v:Value)(s:Shared):Prop where
 inc:∃m,InCall s₀ env.locals m s/\Jh env s.heap m x v
 cell:∀n c,(n,c)∈env.cells->∃u,s.heap.IsCell c u
 apart:env.cells.Pairwise λx y=>x.2≠y.2
 above:∀n c,(n,c)∈env.cells->(n,c)∈clos\/env.locals<c
section
variable{M:Model}{A:Around}{E:Value->Shared->Prop}{s:Shared}
theorem Bf{env:Env}{x:Str}{v:Value}(f:Str×Value->PUnit->Sem (ForInStep PUnit))(hf:∀n v u,f (n,v) u=(do storeName env n v;pure (.yield ⟨⟩)))(hk:env.scope.kind=.function)
  {m:Str->Option Value} (hns:s.heap.Ns env.locals m) (hx:env.kindOf x=some .local\/(env.kindOf x=some .cell/\∃c,env.cells.lookup x=some c/\env.locals<c)) (cl:∀n c,(n,c)∈env.cells->∃u,s.heap.IsCell c u) (ne:∀n c,(n,c)∈env.cells->c≠env.locals)
  {Q:PUnit->Shared->Prop} (h:∀h' m' e tk,h'.Ns env.locals m'->Jh env h' m' x v->Heap.SameBut e s.heap h'->env.locals<=e->(∀n c,(n,c)∈env.cells->∃u,h'.IsCell c u)->Q ⟨⟩ {s with heap:=h',toks:=tk}):wpAny M A (forIn [(x,v)] ⟨⟩ f) Q E s:=by
 rw[List.forIn_cons,hf];rcases hx with hl|⟨hl,c,hc,hLc⟩
 ·refine wpAny_bind (wpAny_bind (wpAny_storeName_local hl hns (λh' hn' hs'=>wpAny_pure ?_) (by rw[hk];rfl)))
  show wpAny M A (forIn [] _ _) Q E _;rw[List.forIn_nil];refine wpAny_pure (h h' _ env.locals _ hn' (.inl ⟨hl,?_⟩) hs' (le_refl _) λn c hm=>?_)
  ·simp
  ·obtain⟨u,hu⟩:=cl n c hm;exact⟨u,hu.sameBut hs' (ne n c hm)⟩
 ·obtain⟨u,hu⟩:=cl x c (PySem.mem_of_lookup hc);refine wpAny_bind (wpAny_bind (wpAny_storeName_cell hk hl hc hu λh' hc' hs'=>wpAny_pure ?_));show wpAny M A (forIn [] _ _) Q E _;rw[List.forIn_nil];refine wpAny_pure (h h' m c _ (hns.sameBut hs' (ne_of_lt hLc)) (.inr ⟨.inl hl,c,hc,hc'⟩) hs' (le_of_lt hLc) λn c2 hm=>?_);by_cases z:c2=c
  ·subst z;exact⟨_,hc'⟩
  ·obtain⟨u2,hu2⟩:=cl n c2 hm;exact⟨u2,hu2.sameBut hs' z⟩
theorem zd{scope:Scope}{globals:Addr}{clos:List (Str×Addr)}{x:Str}{v:Value}{qual:Str}{func:Option Addr}{code:Value}{builtins:Addr}{Q:Env->Shared->Prop}
  (hk:scope.kind=.function) (hx:scope.names.lookup x=some .local\/scope.names.lookup x=some .cell)
  (hc:∀n c,(n,c)∈clos->∃u,s.heap.IsCell c u) (ha:clos.Pairwise λx y=>x.2≠y.2)
  (hQ:∀env,env=newEnv scope s.heap.objs.size globals (cellsFrom (s.heap.objs.size+1) scope.names clos) qual func code none builtins->∀s',Lq s env clos x v s'->Q env s'):
  wpAny M A (newFunctionEnv scope globals clos [(x,v)] qual func code none builtins) Q E s:=by
 simp only[newFunctionEnv,Option.isSome_none,Bool.false_eq_true,if_false];refine wpAny_bind (wpAny_alloc ?_);refine wpAny_bind (wpAny_layCells _ (λname kind cells=>by cases hkc:kind == NameKind.cell <;> simp[hkc]) _ _ _ _ ?_)
 have ok:=cellsFrom_ok scope.names (s.heap.push {cls:=.type "frame",data:=.dict #[]}) (s.heap.objs.size+1) [] ⟨λ_ _ hm=>(nomatch hm),List.Pairwise.nil⟩ (by rw[size_push];exact le_refl _)
 rw[size_push] at ok;rw[show({s with heap:=s.heap.push {cls:=.type "frame",data:=.dict #[]}}:Shared).heap.objs.size=s.heap.objs.size+1 from size_push ..];have eC:cellsFrom (s.heap.objs.size+1) scope.names clos=cellsFrom (s.heap.objs.size+1) scope.names []++clos:=kq _ _ _;have kp:∀b o,s.heap.get? b=some o->(pushCells (s.heap.push {cls:=.type "frame",data:=.dict #[]}) scope.names).get? b=some o:=λb o e=>pushCells_keeps _ _ b o (get?_push_of_some _ e);have hns:(pushCells (s.heap.push {cls:=.type "frame",data:=.dict #[]}) scope.names).Ns s.heap.objs.size (λ_=>none):=(Heap.Ns.new s.heap (.type "frame")).keeps (pushCells_keeps _ _);have cl:∀n c,(n,c)∈cellsFrom (s.heap.objs.size+1) scope.names clos->∃u,(pushCells (s.heap.push {cls:=.type "frame",data:=.dict #[]}) scope.names).IsCell c u:=λn c hm=>by
  rw[eC] at hm;rcases mem_append.mp hm with z|z
  ·exact⟨none,(ok.empty n c z).1⟩
  ·obtain⟨u,hu⟩:=hc n c z;exact⟨u,hu.keeps kp⟩
 have ab:∀n c,(n,c)∈cellsFrom (s.heap.objs.size+1) scope.names clos->(n,c)∈clos\/s.heap.objs.size<c:=λn c hm=>by
  rw[eC] at hm;rcases mem_append.mp hm with z|z
  ·exact .inr (ok.empty n c z).2
  ·exact .inl z
 have ne:∀n c,(n,c)∈cellsFrom (s.heap.objs.size+1) scope.names clos->c≠s.heap.objs.size:=λn c hm=>by
  rcases ab n c hm with z|z
  ·obtain⟨u,hu⟩:=hc n c z;exact ne_of_lt hu.lt
  ·exact ne_of_gt z
 have ap:(cellsFrom (s.heap.objs.size+1) scope.names clos).Pairwise λx y=>x.2≠y.2:=by
  rw[eC];refine List.pairwise_append.mpr ⟨ok.apart,ha,λa hm b hb z=>?_⟩;have l1:=(ok.empty a.1 a.2 hm).2;obtain⟨u,hu⟩:=hc b.1 b.2 hb;have z':a.2=b.2:=z;exact lt_irrefl _ (lt_trans (z'▸hu.lt:a.2<s.heap.objs.size) l1)
 have hx':scope.names.lookup x=some .local\/(scope.names.lookup x=some .cell/\∃c,(cellsFrom (s.heap.objs.size+1) scope.names clos).lookup x=some c/\s.heap.objs.size<c):=by
  rcases hx with z|z
  ·exact .inl z
  ·obtain⟨c,e⟩:=o7 (n:=s.heap.objs.size+1) z;exact .inr ⟨z,c,by rw[eC,kN,e],(ok.empty x c (PySem.mem_of_lookup e)).2⟩
 refine wpAny_bind (Bf (s:={s with heap:=pushCells (s.heap.push {cls:=.type "frame",data:=.dict #[]}) scope.names}) (env:=newEnv scope s.heap.objs.size globals (cellsFrom (s.heap.objs.size+1) scope.names clos) qual func code none builtins) _ (λ_ _ _=>rfl) hk hns hx' cl ne λh' m' e tk ns lk sb le cc=>wpAny_pure ?_);exact hQ _ rfl _ ⟨⟨m',⟨⟨h',tk,rfl⟩,ns,λb o q=>sb.extBut b o (ne_of_lt (lt_of_lt_of_le (lt_size q) le)) (kp b o q),le_refl _⟩,lk⟩,cc,ap,ab⟩
end
theorem jQ{y:Str}{c:Addr}:∀(names:List (Str×NameKind))(n:Nat)(acc:List (Str×Addr)),(y,c)∈cellsFrom n names acc->(y,c)∈acc\/(y,NameKind.cell)∈names
 |[],_,_,h=>.inl h
 | (x,k)::r,n,acc,h=>by
  unfold cellsFrom at h;split at h
  ·rename_i hk;rcases jQ r _ _ h with z|z
   ·rcases mem_cons.mp z with z|z
    ·cases z;rw[eq_of_beq hk];exact .inr mem_cons_self
    ·exact .inl z
   ·exact .inr (mem_cons_of_mem _ z)
  ·rcases jQ r _ _ h with z|z
   ·exact .inl z
   ·exact .inr (mem_cons_of_mem _ z)
def without(H:Hp)(cs:List Addr):Hp:=λb=>if b∈cs then none else H b
def back(H:Hp)(cs:List Addr)(H2:Hp):Hp:=λb=>if b∈cs then H b else H2 b
def fe(H:Hp)(cs:List Addr)(xs:List V):Prop:=Paired (λ(c:Addr)(x:V)=>∃o u,H c=some (.frz o (.own c))/\o.data=.cell (some u)/\RelV x u) cs xs
theorem fe.mono{H H':Hp}{cs:List Addr}{xs:List V}(s:Same H H')(h:fe H cs xs):fe H' cs xs:=Paired.mapP h λ_ _ ⟨o,u,e,r⟩=>⟨o,u,s _ _ e,r⟩
theorem fe.mem{H:Hp}:∀{cs:List Addr}{xs:List V},fe H cs xs->∀c∈cs,∃o u,H c=some (.frz o (.own c))/\o.data=.cell (some u)
 |_::_,_::_,.cons ⟨o,u,e,d,_⟩ t,c,hc=>by
  rcases mem_cons.mp hc with rfl|hc
  ·exact⟨o,u,e,d⟩
  ·exact fe.mem t c hc
theorem fe.get{H:Hp}:∀{cs:List Addr}{xs:List V}{j:Nat}{x:V},fe H cs xs->xs[j]?=some x->∃c o u,cs[j]?=some c/\H c=some (.frz o (.own c))/\o.data=.cell (some u)/\RelV x u
 |c::_,_::_,0,x,.cons ⟨o,u,e,d,r⟩ t,h=>by
  simp at h;subst h;exact⟨c,o,u,rfl,e,d,r⟩
 |_::_,_::_,j+1,x,.cons _ t,h=>by
  obtain⟨c,o,u,h1,h2⟩:=fe.get (j:=j) t (by simpa using h)
  exact⟨c,o,u,by simpa using h1,h2⟩
 |[],[],j,x,.nil,h=>by simp at h
theorem fe.length{H:Hp}:∀{cs:List Addr}{xs:List V},fe H cs xs->cs.length=xs.length
 |[],[],.nil=>rfl
 |_::_,_::_,.cons _ t=>by rw[length_cons,length_cons,fe.length t]
theorem u9{H:Hp}{cs:List Addr}{b:Addr}{u:HO}(h:without H cs b=some u):b∉cs/\H b=some u:=by
 unfold without at h;split at h
 ·cases h
 ·rename_i n;exact⟨n,h⟩
theorem nk{H:Hp}{cs:List Addr}{b:Addr}(h:H b=none):without H cs b=none:=by
 unfold without;split
 ·rfl
 ·exact h
theorem ye{H:Hp}{cs:List Addr}{b:Addr}(h:b∉cs):without H cs b=H b:=by unfold without;rw[if_neg h]
theorem ck.to{P:Program}{w:World}{H H':Hp}{h:Heap}{a:Addr}{o:HO}(x:ck P w H h a o)(k:∀b v,H b=some v->(∀ob u z,v=.frz ob u->ob.data≠.cell z)->H' b=some v):ck P w H' h a o:=by
 induction o with
 |lst xs=>exact x
 |tup xs=>exact x
 |dK kvs=>exact x
 |dT kvs=>
  obtain⟨z,y,xs,r,rest⟩:=x;exact⟨z,y,xs,Paired.mapP r λp q z=>⟨z.1,k _ _ z.2.1 (λ_ _ _ e=>nomatch e),z.2.2⟩,rest⟩
 |set S n=>exact x
 |ins C dx fs=>exact⟨k _ _ x.1 (λ_ _ _ e=>nomatch e),x.2⟩
 |own y=>exact x
 |xd fs=>exact x
 |rng lo hi=>exact x
 |frz ob u ih=>exact⟨x.1,ih x.2⟩
 |tbl ps=>exact x
 |tab good=>
  obtain⟨ps,e,tr,q⟩:=x;refine⟨ps,e,tr,λp cv hg hc=>?_⟩;obtain⟨c,oc,qq,vs,t,e1,e2,e3,e4,e5⟩:=q p cv hg hc;exact⟨c,oc,qq,vs,t,e1,k _ _ e2 (λob u z e=>by cases e;rw[e4];exact λe=>nomatch e),e3,e4,e5⟩
 |fnc c q=>
  obtain⟨y,oc,vs,t,e1,e2,e3⟩:=x;exact⟨y,oc,vs,t,k _ _ e1 (λob u z e=>by cases e;rw[e2];exact λe=>nomatch e),e2,e3⟩
 |met f y=>exact x
 |ext φ=>exact x
theorem lV.without{P:Program}{w:World}{H:Hp}{h:Heap}{cs:List Addr}(x:lV P w H h)(hc:∀c∈cs,∃o u,H c=some (.frz o (.own c))/\o.data=.cell (some u)):lV P w (without H cs) h:=λa o e=>by
 obtain⟨_,e⟩:=u9 e;refine ck.to (x a o e) λb v hb nc=>?_;rw[ye]
 ·exact hb
 ·intro hm;obtain⟨ob,u,q,d⟩:=hc b hm;rw[hb] at q;cases q;exact nc _ _ _ rfl d
structure lT(N:List Str)(L:lS):Prop where
 kind:L.scope.kind=.function
 co:L.scope.isCoroutine=false
 gen:L.scope.isGenerator=false
 nd:N.Nodup
 pre:N.take (1+L.fv.length)=L.par::L.fv
 par:L.scope.names.lookup L.par=some .local\/L.scope.names.lookup L.par=some .cell
 fvs:∀y∈L.fv,L.scope.names.lookup y=some .free/\(y,NameKind.cell)∉L.scope.names
 all:∀y,L.scope.names.lookup y=some .free->y∈L.fv
abbrev lM(L:lS)(n f c:Addr)(clos:List (Str×Addr)):Env:=newEnv L.scope n mainGlobals (cellsFrom (n+1) L.scope.names clos) (L.qual ++ ".<locals>.") (some f) (.ref c) none builtinsNs
def AR(P:Program)(w:World)(K:Frag)(mg:Str->Option Value)(base:Heap)(N:List Str)(L:lS)(f c:Addr)(clos:List (Str×Addr))(A:Around)(outer:List Env)(s:Shared)(H:Hp):Cx where
 prog:=P
 w:=w
 K:=K
 mg:=mg
 base:=base
 A:=A.deeper (lM L s.heap.objs.size f c clos)
 N:=N
 s₀:=s
 H₀:=H
 env:=lM L s.heap.objs.size f c clos
 outer:=outer
 stack:=lM L s.heap.objs.size f c clos::outer
 ex:=[]
 calm:=true
 fn:=λx=>L.scope.names.lookup x == some .cell
 pn:=[]
 xe:=λ_ _=>False
section
variable{P:Program}{w:World}{K:Frag}{mg:Str->Option Value}{base:Heap}{N:List Str}{L:lS}{f c:Addr}{cs:List Addr}{A:Around}{outer:List Env}{s s1:Shared}{H:Hp}{u:Value}{v:V}{xs:List V}
theorem lW.without(e:lW P w K mg base A outer s H)(hc:∀c∈cs,∃o u,H c=some (.frz o (.own c))/\o.data=.cell (some u)):lW P w K mg base A outer s (L2.without H cs):=
 ⟨e.frames,e.mod,λb o q=>⟨(e.bs b o q).1,nk (e.bs b o q).2⟩,e.bsz,e.funs,λb hb=>nk (e.frf b hb),e.hok.without hc,e.bare⟩
end
abbrev Ji(h:Heap)(z TI TO T:Addr)(b:Bool):Prop:=
 h.get? z=some {cls:=.type "zip",dict:=none,data:=.fields #[rawInt T,.bool b,.bool false,.ref TI,.ref TO],slots:=#[]}
section
variable{prog:Program}{w:World}{A:Around}{E:Value->Shared->Prop}{s:Shared}
structure Lb(h:Heap)(z TI TO i1 i2 l1 l2 S:Addr)(xs ys:Array Value)(i:Nat):Prop where
 zip:(i=0/\IsZip h z TI TO .none)\/∃T b oT,Ji h z TI TO T b/\h.get? T=some oT/\T∉[z,TO,i1,i2,S]
 ti:IsPair h TI (.ref i1) (.ref i2)
 to:∃a b,IsPair h TO a b
 it1:h.IsListIter i1 l1 i
 it2:h.IsListIter i2 l2 i
 ls1:h.IsList l1 xs
 ls2:h.IsList l2 ys
theorem Lb.keep{h h':Heap}{z TI TO i1 i2 l1 l2 S:Addr}{xs ys:Array Value}{i:Nat}(x:Lb h z TI TO i1 i2 l1 l2 S xs ys i)(k:∀b o,b≠S->h.get? b=some o->h'.get? b=some o)(hS:S∉[z,TI,TO,i1,i2,l1,l2]):Lb h' z TI TO i1 i2 l1 l2 S xs ys i:=by
 have n:∀c∈[z,TI,TO,i1,i2,l1,l2],c≠S:=λc hc e=>hS (e▸hc);refine⟨?_,k _ _ (n _ (by simp)) x.ti,let ⟨a,b,e⟩:=x.to;⟨a,b,k _ _ (n _ (by simp)) e⟩,x.it1.at λo e=>k _ o (n _ (by simp)) e,x.it2.at λo e=>k _ o (n _ (by simp)) e,x.ls1.at λo e=>k _ o (n _ (by simp)) e,x.ls2.at λo e=>k _ o (n _ (by simp)) e⟩
 rcases x.zip with⟨e,q⟩|⟨T,b,oT,q,t,m⟩
 ·exact .inl ⟨e,k _ _ (n _ (by simp)) q⟩
 ·exact .inr ⟨T,b,oT,k _ _ (n _ (by simp)) q,k _ _ (λe=>m (by simp[e])) t,m⟩
end
end L2
namespace L2
open PySem PySem.Spec
section
variable{prog:Program}{w:World}{A:Around}{R:Result->Shared->Prop}{I:Addr}{fp wr:List Addr}{n:Nat}{P:Nat->Value->Prop}{St:Nat->Heap->Prop}
theorem nU:(toString "max" ++ toString ".loop" : String) = "max.loop" := by decide
theorem Eb(a v:Value):argsOk "max" ⟨[a],[(Str.ofString "default",v)]⟩:=by unfold argsOk;kernel_rfl
theorem Ea(W:Walks prog w A.in1 I fp wr n P St)(bt:Nat->Nat->Bool)(cm:CmpOf prog w A.in1 .Gt P bt)(Z:Addr)(zf:Z∉fp)(dv:Value):
  ∀(k j:Nat)(s:Shared)(b:Value)(c:Nat),n - (j+1)=k->j+1<=n->St (j+1) s.heap->P (argBest bt j) b->s.heap.get? Z=some {cls:=.type "list",dict:=none,data:=.seq #[b,b] c,slots:=#[]}->
  (∀v h' tk,P (argBest bt (n - 1)) v->(∀x o,x∉wr->x≠Z->s.heap.get? x=some o->h'.get? x=some o)->R (.ok (.ret v)) {s with heap:=h',toks:=tk})->
  codeAny (model prog w) A (.builtin "max.loop" ⟨[.ref I,.none,.ref Z],[("default",dv)]⟩) R s:=by
 have zw:Z∉wr:=λh=>zf (W.sub _ h);intro k
 induction k with
 |zero=>
  intro j s b c e0 e1 st pb gz out;have en:j+1=n:=by omega
  refine codeAny_builtin F.entry_max_loop ?_;rw[Around.under_plainId F.plain_max_loop _];show wpAny _ A.in1 (seqItems? (.ref Z) >>= _) _ _ s;refine wpAny_bind (wpAny_seqItems gz rfl ?_);show wpAny _ A.in1 (tryCatch (pyNext (.ref I)) _ >>= _) _ _ s;refine wpAny_bind (wpAny_tryCatch (W.done s _ _ (en▸st) λh' tk kp=>?_));have gz':=kp Z _ zw gz;show wpAny _ A.in1 (updateSeq Z (λ_=>#[]) >>= _) _ _ _;refine wpAny_bind (wpAny_updateSeq gz' rfl (wpAny_bind (wpAny_letGo (wpAny_pure ?_))));exact out b _ tk (by rw[←en];exact pb) λx o xw xz e=>(get?_update_other _ _ (Ne.symm xz)).trans (kp x o xw e)
 |succ k ih=>
  intro j s b c e0 e1 st pb gz out;have lt:j+1<n:=by omega
  refine codeAny_builtin F.entry_max_loop ?_;rw[Around.under_plainId F.plain_max_loop _];show wpAny _ A.in1 (seqItems? (.ref Z) >>= _) _ _ s;refine wpAny_bind (wpAny_seqItems gz rfl ?_);show wpAny _ A.in1 (tryCatch (pyNext (.ref I)) _ >>= _) _ _ s;refine wpAny_bind (wpAny_tryCatch (W.item (j+1) s _ _ lt st λv h' tk pv st' kp=>?_));have gz':=kp Z _ zw gz;show wpAny _ A.in1 (tryCatch (holding [v,v] (richCompare .Gt v b >>= _)) _ >>= _) _ _ _;refine wpAny_bind (wpAny_tryCatch (wpAny_holding (wpAny_bind (cm (j+1) (argBest bt j) v b _ _ _ pv pb ?_))));refine wpAny_bind (wpAny_holding (wpAny_truthy_bool (wpAny_bind (wpAny_letGo (wpAny_pure ?_)))));cases hb:bt (j+1) (argBest bt j) with
  |true=>
   simp only[if_true];refine wpAny_bind (wpAny_updateSeq gz' rfl (wpAny_bind (wpAny_letGo ?_)));rw[nU];refine wpAny_pure ⟨plainId_quiet F.plain_max_loop _,ih (j+1) _ v _ (by omega) lt (W.frame _ _ _ st' λx xf o e=>(get?_update_other _ _ (λh:Z=x=>zf (by rw[h];exact xf))).trans e) (by simp only[argBest,hb,if_true];exact pv) (Heap.get?_update_self _ gz' rfl) λu h2 tk2 pu kp2=>?_⟩
   exact out u h2 tk2 pu λx o xw xz e=>kp2 x o xw xz ((get?_update_other _ _ (Ne.symm xz)).trans (kp x o xw e))
  |false=>
   simp only[Bool.false_eq_true,if_false];refine wpAny_bind (wpAny_letGo ?_);rw[nU];exact wpAny_pure ⟨plainId_quiet F.plain_max_loop _,ih (j+1) _ b c (by omega) lt st' (by simp only[argBest,hb,Bool.false_eq_true,if_false];exact pb) gz' λu h2 tk2 pu kp2=>out u h2 tk2 pu λx o xw xz e=>kp2 x o xw xz (kp x o xw e)⟩
theorem Ce(W:Walks prog w A.in1 I fp wr n P St)(bt:Nat->Nat->Bool)(cm:CmpOf prog w A.in1 .Gt P bt)(Z:Addr)(zf:Z∉fp)(dv:Value){s:Shared}{c:Nat}(st:St 0 s.heap)
  (gz:s.heap.get? Z=some {cls:=.type "list",dict:=none,data:=.seq #[] c,slots:=#[]})
  (none_:n=0->∀h' tk,(∀x o,x∉wr->s.heap.get? x=some o->h'.get? x=some o)->R (.ok (.ret dv)) {s with heap:=h',toks:=tk})
  (out:0<n->∀v h' tk,P (argBest bt (n - 1)) v->(∀x o,x∉wr->x≠Z->s.heap.get? x=some o->h'.get? x=some o)->R (.ok (.ret v)) {s with heap:=h',toks:=tk}):
  codeAny (model prog w) A (.builtin "max.loop" ⟨[.ref I,.none,.ref Z],[("default",dv)]⟩) R s:=by
 have zw:Z∉wr:=λh=>zf (W.sub _ h);refine codeAny_builtin F.entry_max_loop ?_;rw[Around.under_plainId F.plain_max_loop _];show wpAny _ A.in1 (seqItems? (.ref Z) >>= _) _ _ s;refine wpAny_bind (wpAny_seqItems gz rfl ?_);show wpAny _ A.in1 (tryCatch (pyNext (.ref I)) _ >>= _) _ _ s;rcases Nat.eq_zero_or_pos n with en|pn
 ·refine wpAny_bind (wpAny_tryCatch (W.done s _ _ (en▸st) λh' tk kp=>?_));exact wpAny_bind (wpAny_rule (wpAny_pure (none_ en h' tk kp)))
 ·refine wpAny_bind (wpAny_tryCatch (W.item 0 s _ _ pn st λv h' tk pv st' kp=>?_));have gz':=kp Z _ zw gz;show wpAny _ A.in1 (updateSeq Z (λ_=>#[v,v]) >>= _) _ _ _;refine wpAny_bind (wpAny_updateSeq gz' rfl ?_);rw[nU];exact wpAny_pure ⟨plainId_quiet F.plain_max_loop _,Ea W bt cm Z zf dv _ 0 _ v _ rfl pn (W.frame _ _ _ st' λx xf o e=>(get?_update_other _ _ (λh:Z=x=>zf (by rw[h];exact xf))).trans e) pv (Heap.get?_update_self _ gz' rfl) λu h2 tk2 pu kp2=>out pn u h2 tk2 pu λx o xw xz e=>kp2 x o xw xz ((get?_update_other _ _ (Ne.symm xz)).trans (kp x o xw e))⟩
end
end L2
namespace L3
open PySem PySem.Spec PyProof.Rows L2
structure Ct where
 K:Frag
 cls:String->Addr
 clo:Nat->Hp->Addr->List V->Prop
 cloM:∀{k:Nat}{H H':Hp}{a:Addr}{xs:List V},Same H H'->clo k H a xs->clo k H' a xs
 tb:Hp
 opq:∀H a,clo I0 H a []
mutual
def Rep(Γ:Ct)(H:Hp):D->V->Prop
 |.non,v=>v=.non
 |.bl b,v=>v=.bl b
 |.int i,v=>v=.int i
 |.str x,v=>v=.str x
 |.tup ds,v=>∃a xs,v=.ref a/\nh Γ.K H a xs/\RepL Γ H ds xs
 |.lst ds,v=>∃a xs,v=.ref a/\kY Γ.K H a xs/\RepL Γ H ds xs
 |.obj c ns ds,v=>∃a dx xs,v=.ref a/\H a=some (.ins (Γ.cls c) dx (ns.zip xs))/\RepL Γ H ds xs
 |.fn k ds,v=>∃a xs,v=.ref a/\Γ.clo k H a xs/\RepL Γ H ds xs
def RepL(Γ:Ct)(H:Hp):List D->List V->Prop
 |[],xs=>xs=[]
 |d::ds,xs=>∃x r,xs=x::r/\Rep Γ H d x/\RepL Γ H ds r
end
theorem cu{K:Frag}{H H':Hp}{a:Addr}{xs:List V}(e:Same H H')(h:nh K H a xs):nh K H' a xs:=by
 rcases h with(h|⟨o,h⟩)|h
 ·exact .inl (.inl (e _ _ h))
 ·exact .inl (.inr ⟨o,e _ _ h⟩)
 ·exact .inr h
mutual
theorem Rep.mono{Γ:Ct}{H H':Hp}(e:Same H H'):∀{d:D}{v:V},Rep Γ H d v->Rep Γ H' d v
 |.non,_,r=>by unfold Rep at r ⊢;exact r
 |.bl _,_,r=>by unfold Rep at r ⊢;exact r
 |.int _,_,r=>by unfold Rep at r ⊢;exact r
 |.str _,_,r=>by unfold Rep at r ⊢;exact r
 |.tup ds,_,r=>by
  unfold Rep at r ⊢;obtain⟨a,xs,e1,q,r⟩:=r;exact⟨a,xs,e1,cu e q,RepL.mono e r⟩
 |.lst ds,_,r=>by
  unfold Rep at r ⊢;obtain⟨a,xs,e1,q,r⟩:=r;exact⟨a,xs,e1,Same.seq e q,RepL.mono e r⟩
 |.obj c ns ds,_,r=>by
  unfold Rep at r ⊢;obtain⟨a,dx,xs,e1,q,r⟩:=r;exact⟨a,dx,xs,e1,e _ _ q,RepL.mono e r⟩
 |.fn k ds,_,r=>by
  unfold Rep at r ⊢;obtain⟨a,xs,e1,q,r⟩:=r;exact⟨a,xs,e1,Γ.cloM e q,RepL.mono e r⟩
theorem RepL.mono{Γ:Ct}{H H':Hp}(e:Same H H'):∀{ds:List D}{xs:List V},RepL Γ H ds xs->RepL Γ H' ds xs
 |[],_,r=>by unfold RepL at r ⊢;exact r
 |d::ds,_,r=>by
  unfold RepL at r ⊢;obtain⟨x,r',e1,q,r2⟩:=r;exact⟨x,r',e1,Rep.mono e q,RepL.mono e r2⟩
end
section
variable{Γ:Ct}{H H':Hp}
theorem fu{v:V}:Rep Γ H .non v↔v=.non:=by unfold Rep;exact Iff.rfl
theorem cT{b:Bool}{v:V}:Rep Γ H (.bl b) v↔v=.bl b:=by unfold Rep;exact Iff.rfl
theorem ai{i:Int}{v:V}:Rep Γ H (.int i) v↔v=.int i:=by unfold Rep;exact Iff.rfl
theorem bW{x:Str}{v:V}:Rep Γ H (.str x) v↔v=.str x:=by unfold Rep;exact Iff.rfl
theorem bF{ds:List D}{v:V}:Rep Γ H (.tup ds) v↔∃a xs,v=.ref a/\nh Γ.K H a xs/\RepL Γ H ds xs:=by
 constructor
 ·intro h;unfold Rep at h;exact h
 ·intro h;unfold Rep;exact h
theorem bH{ds:List D}{v:V}:Rep Γ H (.lst ds) v↔∃a xs,v=.ref a/\kY Γ.K H a xs/\RepL Γ H ds xs:=by
 constructor
 ·intro h;unfold Rep at h;exact h
 ·intro h;unfold Rep;exact h
theorem pH{c:String}{ns:List Str}{ds:List D}{v:V}:Rep Γ H (.obj c ns ds) v↔∃a dx xs,v=.ref a/\H a=some (.ins (Γ.cls c) dx (ns.zip xs))/\RepL Γ H ds xs:=by
 constructor
 ·intro h;unfold Rep at h;exact h
 ·intro h;unfold Rep;exact h
theorem Hv{k:Nat}{ds:List D}{v:V}:Rep Γ H (.fn k ds) v↔∃a xs,v=.ref a/\Γ.clo k H a xs/\RepL Γ H ds xs:=by
 constructor
 ·intro h;unfold Rep at h;exact h
 ·intro h;unfold Rep;exact h
theorem dI{xs:List V}:RepL Γ H [] xs↔xs=[]:=by unfold RepL;exact Iff.rfl
theorem aZ{d:D}{ds:List D}{xs:List V}:RepL Γ H (d::ds) xs↔∃x r,xs=x::r/\Rep Γ H d x/\RepL Γ H ds r:=by
 constructor
 ·intro h;unfold RepL at h;exact h
 ·intro h;unfold RepL;exact h
theorem RepL.nil:RepL Γ H [] []:=dI.mpr rfl
theorem RepL.cons{d:D}{ds:List D}{x:V}{xs:List V}(h:Rep Γ H d x)(t:RepL Γ H ds xs):RepL Γ H (d::ds) (x::xs):=aZ.mpr ⟨x,xs,rfl,h,t⟩
theorem RepL.length:∀{ds:List D}{xs:List V},RepL Γ H ds xs->ds.length=xs.length
 |[],xs,h=>by rw[dI.mp h];rfl
 |d::ds,xs,h=>by
  obtain⟨x,r,e,_,t⟩:=aZ.mp h;rw[e,length_cons,length_cons,RepL.length t]
theorem RepL.append:∀{ds es:List D}{xs ys:List V},RepL Γ H ds xs->RepL Γ H es ys->RepL Γ H (ds++es) (xs++ys)
 |[],es,xs,ys,h,h'=>by rw[dI.mp h];exact h'
 |d::ds,es,xs,ys,h,h'=>by
  obtain⟨x,r,e,q,t⟩:=aZ.mp h;rw[e];exact .cons q (RepL.append t h')
theorem RepL.get:∀{ds:List D}{xs:List V}{i:Nat}{d:D},RepL Γ H ds xs->ds[i]?=some d->∃x,xs[i]?=some x/\Rep Γ H d x
 |[],xs,i,d,h,e=>by simp at e
 |d::ds,xs,0,d',h,e=>by
  obtain⟨x,r,e1,q,t⟩:=aZ.mp h;simp at e;subst e e1;exact⟨x,rfl,q⟩
 |d::ds,xs,i+1,d',h,e=>by
  obtain⟨x,r,e1,q,t⟩:=aZ.mp h;obtain⟨y,e2,q2⟩:=RepL.get (i:=i) t (by simpa using e)
  subst e1;exact⟨y,by simpa using e2,q2⟩
theorem RepL.take:∀{ds:List D}{xs:List V}(n:Nat),RepL Γ H ds xs->RepL Γ H (ds.take n) (xs.take n)
 |_,_,0,_=>.nil
 |[],xs,n+1,h=>by rw[dI.mp h];exact .nil
 |d::ds,xs,n+1,h=>by
  obtain⟨x,r,e,q,t⟩:=aZ.mp h;subst e;exact .cons q (RepL.take n t)
theorem RepL.drop:∀{ds:List D}{xs:List V}(n:Nat),RepL Γ H ds xs->RepL Γ H (ds.drop n) (xs.drop n)
 |_,_,0,h=>h
 |[],xs,n+1,h=>by rw[dI.mp h];exact .nil
 |d::ds,xs,n+1,h=>by
  obtain⟨x,r,e,q,t⟩:=aZ.mp h;subst e;exact RepL.drop n t
theorem RepL.rep{ds:List D}{xs:List V}(h:RepL Γ H ds xs):∀k:Nat,RepL Γ H (replicate k ds).flatten (replicate k xs).flatten
 |0=>.nil
 |k+1=>by
  rw[replicate_succ,replicate_succ,flatten_cons,flatten_cons];exact h.append (RepL.rep h k)
theorem RepL.set{d:D}{x:V}(q:Rep Γ H d x):∀{ds:List D}{xs:List V}(i:Nat),RepL Γ H ds xs->RepL Γ H (ds.set i d) (xs.set i x)
 |[],xs,i,h=>by rw[dI.mp h];exact .nil
 |e::ds,xs,0,h=>by
  obtain⟨y,r,e1,_,t⟩:=aZ.mp h;subst e1;exact .cons q t
 |e::ds,xs,i+1,h=>by
  obtain⟨y,r,e1,q1,t⟩:=aZ.mp h;subst e1;exact .cons q1 (RepL.set q i t)
theorem RepL.ints:∀(ns:List Int),RepL Γ H (ns.map D.int) (ns.map V.int)
 |[]=>.nil
 |n::ns=>.cons (ai.mpr rfl) (RepL.ints ns)
theorem RepL.intsOf:∀{ds:List D}{xs:List V}{ns:List Int},RepL Γ H ds xs->intsOf ds=some ns->xs=ns.map V.int
 |[],xs,ns,h,e=>by
  cases e;exact dI.mp h
 |.int i::ds,xs,ns,h,e=>by
  obtain⟨x,r,e1,q,t⟩:=aZ.mp h;unfold L3.intsOf at e;cases e2:L3.intsOf ds with
  |none=>rw[e2] at e;cases e
  |some ms=>
   rw[e2] at e;cases e;rw[e1,ai.mp q,RepL.intsOf t e2,map_cons]
 |.non::ds,xs,ns,h,e=>by cases e
 |.bl _::ds,xs,ns,h,e=>by cases e
 |.str _::ds,xs,ns,h,e=>by cases e
 |.tup _::ds,xs,ns,h,e=>by cases e
 |.lst _::ds,xs,ns,h,e=>by cases e
 |.fn _ _::ds,xs,ns,h,e=>by cases e
 |.obj _ _ _::ds,xs,ns,h,e=>by cases e
theorem Dz{d:D}{v:V}(h:Rep Γ H d v)(f:flat d=true):Rep Γ H' d v:=by
 cases d with
 |non=>exact fu.mpr (fu.mp h)
 |bl _=>exact cT.mpr (cT.mp h)
 |int _=>exact ai.mpr (ai.mp h)
 |str _=>exact bW.mpr (bW.mp h)
 |_=>cases f
end
def oP(Γ:Ct)(Hs:Hp):O->HO->Prop
 |.lst ds,ho=>∃xs,ho=.lst xs/\RepL Γ Hs ds xs
 |.obj c ns ds,ho=>∃dx xs,ho=.ins (Γ.cls c) dx (ns.zip xs)/\RepL Γ Hs ds xs
 |.dic _,_=>False
 |.par _ _,_=>False
 |.fdic _,_=>False
 |.tab _,_=>False
 |.dik kvs,ho=>ho=.dK (kvs.map λp=>(Sum.inl p.1,V.int p.2))
def zE(kvs:List (List Int×Int)):List (List Key×V):=kvs.map λp=>(p.1.map Sum.inl,V.int p.2)
def fP(Γ:Ct)(Hs:Hp)(a:Addr):O->HO->Prop
 |.lst ds,ho=>∃xs,ho=.lst xs/\RepL Γ Hs ds xs
 |.obj c ns ds,ho=>∃dx xs,ho=.ins (Γ.cls c) dx (ns.zip xs)/\RepL Γ Hs ds xs
 |.dic kvs,ho=>ho=.dT (zE kvs)
 |.par b o,ho=>a=b/\fP Γ Hs a o ho
 |.fdic _,_=>False
 |.tab _,_=>False
 |.dik kvs,ho=>ho=.dK (kvs.map λp=>(Sum.inl p.1,V.int p.2))
theorem oP.w{Γ:Ct}{H:Hp}{o:O}{ho:HO}{a:Addr}(h:oP Γ H o ho):fP Γ H a o ho:=by
 cases o with
 |lst ds=>exact h
 |obj c ns ds=>exact h
 |dik _=>exact h
 |_=>exact h.elim
theorem fP.o{Γ:Ct}{H:Hp}{o:O}{ho:HO}{a:Addr}(h:fP Γ H a o ho)(n:∀kvs,o≠.dic kvs)(n2:∀b u,o≠.par b u)(n3:∀kvs,o≠.fdic kvs)(n4:∀kvs,o≠.tab kvs):oP Γ H o ho:=by
 cases o with
 |lst ds=>exact h
 |obj c ns ds=>exact h
 |dic kvs=>exact(n kvs rfl).elim
 |par b u=>exact(n2 b u rfl).elim
 |fdic kvs=>exact(n3 kvs rfl).elim
 |tab kvs=>exact(n4 kvs rfl).elim
 |dik _=>exact h
theorem fP.mono{Γ:Ct}{H H':Hp}(e:Same H H'){a:Addr}:∀{o:O}{ho:HO},fP Γ H a o ho->fP Γ H' a o ho
 |.lst ds,_,h=>by obtain⟨xs,e1,r⟩:=h;exact⟨xs,e1,r.mono e⟩
 |.obj c ns ds,_,h=>by obtain⟨dx,xs,e1,r⟩:=h;exact⟨dx,xs,e1,r.mono e⟩
 |.dic _,_,h=>h
 |.par b o,_,h=>⟨h.1,fP.mono e h.2⟩
 |.fdic _,_,h=>h
 |.tab _,_,h=>h
 |.dik _,_,h=>h
theorem oP.mono{Γ:Ct}{H H':Hp}(e:Same H H'){o:O}{ho:HO}(h:oP Γ H o ho):oP Γ H' o ho:=by
 cases o with
 |dik _=>exact h
 |lst ds=>obtain⟨xs,e1,r⟩:=h;exact⟨xs,e1,r.mono e⟩
 |obj c ns ds=>obtain⟨dx,xs,e1,r⟩:=h;exact⟨dx,xs,e1,r.mono e⟩
 |_=>exact h.elim
theorem oP.val{Γ:Ct}{H:Hp}{o:O}{ho:HO}{a:Addr}(h:oP Γ H o ho)(e:H a=some ho):Rep Γ H o.val (.ref a):=by
 cases o with
 |dik _=>exact Hv.mpr ⟨a,[],rfl,Γ.opq H a,.nil⟩
 |lst ds=>obtain⟨xs,e1,r⟩:=h;subst e1;exact bH.mpr ⟨a,xs,rfl,.of e,r⟩
 |obj c ns ds=>obtain⟨dx,xs,e1,r⟩:=h;subst e1;exact pH.mpr ⟨a,dx,xs,rfl,e,r⟩
 |_=>exact h.elim
structure Grow(Hs H Hs' H':Hp):Prop where
 s:Same Hs Hs'
 h:Same H H'
 i:Same Hs' H'
 n:∀b o,Hs' b=some o->Hs b=some o\/H b=none
theorem Grow.refl{Hs H:Hp}(e:Same Hs H):Grow Hs H Hs H:=⟨.refl _,.refl _,e,λ_ _ q=>.inl q⟩
theorem Grow.trans{Hs H Hs1 H1 Hs2 H2:Hp}(a:Grow Hs H Hs1 H1)(b:Grow Hs1 H1 Hs2 H2):Grow Hs H Hs2 H2:=
 ⟨a.s.trans b.s,a.h.trans b.h,b.i,λc o q=>(b.n c o q).elim (λz=>a.n c o z) λz=>.inr (a.h.free z)⟩
theorem Grow.only{Hs H H':Hp}(e:Same Hs H)(k:Same H H'):Grow Hs H Hs H':=⟨.refl _,k,e.trans k,λ_ _ q=>.inl q⟩
theorem aX{H:Hp}{p:Addr}{o:HO}(h:H p=none):Same H (c8 H p o):=λb u e=>by rw[av (aG e h)];exact e
theorem Grow.new{Hs H:Hp}{p:Addr}{o:HO}(e:Same Hs H)(h:H p=none):Grow Hs H (c8 Hs p o) (c8 H p o):=
 ⟨aX (e.free h),aX h,λb u q=>by
  by_cases hb:b=p
  ·subst hb;rw[aB] at q ⊢;exact q
  ·rw[av hb] at q ⊢;exact e _ _ q,λb u q=>by
  by_cases hb:b=p
  ·subst hb;exact .inr h
  ·rw[av hb] at q;exact .inl q⟩
theorem Grow.newOwn{Hs H:Hp}{p:Addr}{o:HO}(e:Same Hs H)(h:H p=none):Grow Hs H Hs (c8 H p o):=.only e (aX h)
theorem Grow.share{Hs H Hs' H':Hp}{a:Addr}{ho:HO}(g:Grow Hs H Hs' H')(h0:H a=none)(h1:Hs' a=none)(h2:H' a=some ho):Grow Hs H (c8 Hs' a ho) H'/\Same Hs' (c8 Hs' a ho):=
 ⟨⟨g.s.trans (aX h1),g.h,λb u q=>by
  by_cases hb:b=a
  ·subst hb;rw[aB] at q;cases q;exact h2
  ·rw[av hb] at q;exact g.i _ _ q,λb u q=>by
  by_cases hb:b=a
  ·subst hb;exact .inr h0
  ·rw[av hb] at q;exact g.n _ _ q⟩,aX h1⟩
inductive Lc(Γ:Ct)(H Hs' H':Hp)(o:O)(v:V):Prop
 |mk (a:Addr) (ho:HO) (ev:v=.ref a) (h0:H a=none) (h1:Hs' a=none) (h2:H' a=some ho) (q:oP Γ Hs' o ho)
def ic(Γ:Ct)(H Hs' H':Hp):S->V->Prop
 |.sh d,v=>Rep Γ Hs' d v
 |.own o,v=>Lc Γ H Hs' H' o v
 |.two d a o,v=>Rep Γ Hs' d v/\∃ho,Hs' a=none/\H' a=some ho/\fP Γ Hs' a o ho
theorem ic.of{Γ:Ct}{H Hs' H':Hp}{d:D}{v:V}(h:Rep Γ Hs' d v):ic Γ H Hs' H' (.sh d) v:=h
theorem ic.share{Γ:Ct}{Hs H Hs' H':Hp}{s:S}{v:V}(g:Grow Hs H Hs' H')(r:ic Γ H Hs' H' s v):∃Hs'',Grow Hs H Hs'' H'/\Same Hs' Hs''/\Rep Γ Hs'' s.val v:=by
 cases s with
 |sh d=>exact⟨Hs',g,.refl _,r⟩
 |own o=>
  obtain⟨a,ho,rfl,h0,h1,h2,q⟩:=r;obtain⟨g',e⟩:=g.share h0 h1 h2;exact⟨_,g',e,(q.mono e).val aB⟩
 |two d a o=>exact⟨Hs',g,.refl _,r.1⟩
theorem ic.look{Γ:Ct}{Hs H Hs' H':Hp}{s:S}{v:V}(g:Grow Hs H Hs' H')(r:ic Γ H Hs' H' s v):Rep Γ H' s.val v:=by
 cases s with
 |sh d=>exact Rep.mono g.i r
 |own o=>
  obtain⟨a,ho,rfl,h0,h1,h2,q⟩:=r;exact(q.mono g.i).val h2
 |two d a o=>exact Rep.mono g.i r.1
theorem ic.back{Γ:Ct}{H H1 Hs' H':Hp}{s:S}{v:V}(k:Same H H1)(r:ic Γ H1 Hs' H' s v):ic Γ H Hs' H' s v:=by
 cases s with
 |sh d=>exact r
 |own o=>
  obtain⟨a,ho,e,h0,h1,h2,q⟩:=r;exact⟨a,ho,e,k.free h0,h1,h2,q⟩
 |two d a o=>exact r
inductive Kj(Γ:Ct)(B1 Hs H:Hp)(x:Option (Option V))(o:O):Prop
 |mk (a:Addr) (ho:HO) (e1:x=some (some (.ref a))) (e2:B1 a=none) (e3:Hs a=none) (e4:H a=some ho) (q:fP Γ Hs a o ho)
structure RE(Γ:Ct)(B0 B1 Hs H:Hp)(σ:L2.St)(ρ:MEnv):Prop where
 b:Grow B0 B1 Hs H
 sh:∀(i:Nat)(d:D),ρ[i]?=some (some (.sh d))->∃v,σ[i]?=some (some v)/\Rep Γ Hs d v
 own:∀(i:Nat)(o:O),ρ[i]?=some (some (.own o))->Kj Γ B1 Hs H σ[i]? o
 apart:∀(i j:Nat)(o u:O)(a:Addr),i≠j->ρ[i]?=some (some (.own o))->ρ[j]?=some (some (.own u))->σ[i]?=some (some (.ref a))->σ[j]?≠some (some (.ref a))
 len:ρ.length=σ.length
 tb:Same Γ.tb Hs
section
variable{Γ:Ct}{B0 B1 Hs H Hs' H':Hp}{σ:L2.St}{ρ:MEnv}
theorem RE.grow(r:RE Γ B0 B1 Hs H σ ρ)(g:Grow Hs H Hs' H'):RE Γ B0 B1 Hs' H' σ ρ where
 tb:=r.tb.trans g.s
 b:=r.b.trans g
 sh:=λi d e=>let ⟨v,e1,q⟩:=r.sh i d e;⟨v,e1,q.mono g.s⟩
 own:=λi o e=>by
  obtain⟨a,ho,e1,e2,e3,e4,q⟩:=r.own i o e;refine⟨a,ho,e1,e2,?_,g.h _ _ e4,q.mono g.s⟩;cases z:Hs' a with
  |none=>rfl
  |some u=>
   rcases g.n a u z with z'|z'
   ·rw[e3] at z';cases z'
   ·rw[e4] at z';cases z'
 apart:=r.apart
 len:=r.len
theorem RE.setSh(r:RE Γ B0 B1 Hs H σ ρ){i:Nat}{d:D}{v:V}(hi:i<σ.length)(q:Rep Γ Hs d v):RE Γ B0 B1 Hs H (σ.set i (some v)) (ρ.set i (some (.sh d))) where
 tb:=r.tb
 b:=r.b
 sh:=λj e hj=>by
  by_cases h:i=j
  ·subst h;rw[getElem?_set_self (by rw[r.len];exact hi)] at hj
   cases hj;exact⟨v,getElem?_set_self hi,q⟩
  ·rw[getElem?_set_ne h] at hj ⊢;exact r.sh j e hj
 own:=λj o hj=>by
  by_cases h:i=j
  ·subst h;rw[getElem?_set_self (by rw[r.len];exact hi)] at hj
   cases hj
  ·rw[getElem?_set_ne h] at hj ⊢;exact r.own j o hj
 apart:=λj k o u a hjk hj hk ha=>by
  have n1:i≠j:=λz=>by subst z;rw[getElem?_set_self (by rw[r.len];exact hi)] at hj;cases hj
  have n2:i≠k:=λz=>by subst z;rw[getElem?_set_self (by rw[r.len];exact hi)] at hk;cases hk
  rw[getElem?_set_ne n1] at hj ha;rw[getElem?_set_ne n2] at hk ⊢;exact r.apart j k o u a hjk hj hk ha
 len:=by rw[length_set,length_set,r.len]
theorem RE.setOwn(r:RE Γ B0 B1 Hs H σ ρ){i:Nat}{o:O}{a:Addr}{ho:HO}(hi:i<σ.length)(b1:B1 a=none)(h1:Hs a=none)(h2:H a=some ho)(q:fP Γ Hs a o ho)
  (new:∀(j:Nat)(u:O),j≠i->ρ[j]?=some (some (.own u))->σ[j]?≠some (some (.ref a))):RE Γ B0 B1 Hs H (σ.set i (some (.ref a))) (ρ.set i (some (.own o))) where
 tb:=r.tb
 b:=r.b
 sh:=λj e hj=>by
  by_cases h:i=j
  ·subst h;rw[getElem?_set_self (by rw[r.len];exact hi)] at hj
   cases hj
  ·rw[getElem?_set_ne h] at hj ⊢;exact r.sh j e hj
 own:=λj u hj=>by
  by_cases h:i=j
  ·subst h;rw[getElem?_set_self (by rw[r.len];exact hi)] at hj
   cases hj;exact⟨a,ho,getElem?_set_self hi,b1,h1,h2,q⟩
  ·rw[getElem?_set_ne h] at hj ⊢;exact r.own j u hj
 apart:=λj k u u' c hjk hj hk ha=>by
  by_cases hij:i=j
  ·subst hij;rw[getElem?_set_self hi] at ha;cases ha;rw[getElem?_set_ne hjk] at hk ⊢;exact new k u' (Ne.symm hjk) hk
  ·rw[getElem?_set_ne hij] at hj ha;by_cases hik:i=k
   ·subst hik;rw[getElem?_set_self hi];intro z;cases z;exact new j u (Ne.symm hij) hj ha
   ·rw[getElem?_set_ne hik] at hk ⊢;exact r.apart j k u u' c hjk hj hk ha
 len:=by rw[length_set,length_set,r.len]
theorem RE.setS(r:RE Γ B0 B1 Hs H σ ρ)(g:Grow Hs H Hs' H'){i:Nat}{s:S}{v:V}(hi:i<σ.length)(q:ic Γ H Hs' H' s v):RE Γ B0 B1 Hs' H' (σ.set i (some v)) (ρ.set i (some s)):=by
 cases s with
 |sh d=>exact(r.grow g).setSh hi q
 |own o=>
  obtain⟨a,ho,rfl,h0,h1,h2,q⟩:=q;refine(r.grow g).setOwn hi (r.b.h.free h0) h1 h2 q.w λj u _ hj z=>?_;obtain⟨c,hc,e1,_,_,e4,_⟩:=r.own j u hj;rw[z] at e1;cases e1;rw[h0] at e4;cases e4
 |two d a o=>
  have r1:=(r.grow g).setSh hi q.1;have key:∀(j:Nat)(s:S),(∀d a o,s≠.two d a o)->(ρ.set i (some (.two d a o)))[j]?=some (some s)->(ρ.set i (some (.sh d)))[j]?=some (some s):=λj s hn hj=>by
   by_cases h:i=j
   ·subst h;rw[getElem?_set_self (by rw[r.len];exact hi)] at hj
    cases hj;exact(hn _ _ _ rfl).elim
   ·rw[getElem?_set_ne h] at hj ⊢;exact hj
  exact⟨r1.b,λj e hj=>r1.sh j e (key j _ (λ_ _ _ z=>nomatch z) hj),λj u hj=>r1.own j u (key j _ (λ_ _ _ z=>nomatch z) hj),λj k u u' c hjk hj hk ha=>r1.apart j k u u' c hjk (key j _ (λ_ _ _ z=>nomatch z) hj) (key k _ (λ_ _ _ z=>nomatch z) hk) ha,by rw[length_set,length_set,r.len],r1.tb⟩
theorem RE.write(r:RE Γ B0 B1 Hs H σ ρ){i:Nat}{o o':O}{a:Addr}{ho':HO}(e:ρ[i]?=some (some (.own o)))(ea:σ[i]?=some (some (.ref a)))(q:fP Γ Hs a o' ho'):RE Γ B0 B1 Hs (c8 H a ho') σ (ρ.set i (some (.own o'))):=by
 obtain⟨c,ho,e1,e2,e3,e4,_⟩:=r.own i o e;rw[ea] at e1;cases e1;have hi:i<ρ.length:=(List.getElem?_eq_some_iff.mp e).1;refine⟨⟨r.b.s,λb u z=>?_,λb u z=>?_,r.b.n⟩,λj d hj=>?_,λj u hj=>?_,λj k u u' c hjk hj hk ha=>?_,by rw[length_set,r.len],r.tb⟩
 ·rw[av (aG z e2)];exact r.b.h _ _ z
 ·rw[av (aG z e3)];exact r.b.i _ _ z
 ·by_cases h:i=j
  ·subst h;rw[getElem?_set_self hi] at hj;cases hj
  ·rw[getElem?_set_ne h] at hj;exact r.sh j d hj
 ·by_cases h:i=j
  ·subst h;rw[getElem?_set_self hi] at hj;cases hj;exact⟨a,ho',ea,e2,e3,aB,q⟩
  ·rw[getElem?_set_ne h] at hj;obtain⟨c,hc,f1,f2,f3,f4,f5⟩:=r.own j u hj;refine⟨c,hc,f1,f2,f3,?_,f5⟩;rw[av]
   ·exact f4
   ·intro z;subst z;exact r.apart i j o u c h e hj ea f1
 ·have old:∀(m:Nat)(u:O),(ρ.set i (some (.own o')))[m]?=some (some (.own u))->∃u',ρ[m]?=some (some (.own u')):=λm u hm=>by
   by_cases h:i=m
   ·subst h;exact⟨o,e⟩
   ·rw[getElem?_set_ne h] at hm;exact⟨u,hm⟩
  obtain⟨x,hx⟩:=old j u hj;obtain⟨y,hy⟩:=old k u' hk;exact r.apart j k x y c hjk hx hy ha
theorem RE.dem(r:RE Γ B0 B1 Hs H σ ρ)(i:Nat):∃Hs',Same Hs Hs'/\RE Γ B0 B1 Hs' H σ (dem i ρ):=by
 unfold L3.dem;split
 ·exact⟨Hs,.refl _,r⟩
 ·exact⟨Hs,.refl _,r⟩
 ·exact⟨Hs,.refl _,r⟩
 ·exact⟨Hs,.refl _,r⟩
 ·rename_i o hno hno2 hno3 hno4 e;obtain⟨a,ho,e1,e2,e3,e4,q⟩:=r.own i o e;have q:=q.o (λkvs z=>by subst z;exact hno kvs rfl) (λb u z=>by subst z;exact hno2 b u rfl) (λkvs z=>by subst z;exact hno3 kvs rfl) λkvs z=>by subst z;exact hno4 kvs rfl
  have hi:i<ρ.length:=(List.getElem?_eq_some_iff.mp e).1;have sm:Same Hs (c8 Hs a ho):=aX e3;have sh':Same (c8 Hs a ho) H:=λb u z=>by
   by_cases hb:b=a
   ·subst hb;rw[aB] at z;cases z;exact e4
   ·rw[av hb] at z;exact r.b.i _ _ z
  refine⟨c8 Hs a ho,sm,⟨⟨r.b.s.trans sm,r.b.h,sh',λb u z=>?_⟩,λj d hj=>?_,λj u hj=>?_,λj k u u' c hjk hj hk ha=>?_,by rw[length_set,r.len],r.tb.trans sm⟩⟩
  ·by_cases hb:b=a
   ·subst hb;exact .inr e2
   ·rw[av hb] at z;exact r.b.n _ _ z
  ·by_cases h:i=j
   ·subst h;rw[getElem?_set_self hi] at hj;cases hj;exact⟨.ref a,e1,(q.mono sm).val aB⟩
   ·rw[getElem?_set_ne h] at hj;obtain⟨v,f1,f2⟩:=r.sh j d hj;exact⟨v,f1,f2.mono sm⟩
  ·by_cases h:i=j
   ·subst h;rw[getElem?_set_self hi] at hj;cases hj
   ·rw[getElem?_set_ne h] at hj;obtain⟨c,hc,f1,f2,f3,f4,f5⟩:=r.own j u hj;refine⟨c,hc,f1,f2,?_,f4,f5.mono sm⟩;rw[av]
    ·exact f3
    ·intro z;subst z;exact r.apart i j o u c h e hj e1 f1
  ·have n1:i≠j:=λz=>by subst z;rw[getElem?_set_self hi] at hj;cases hj
   have n2:i≠k:=λz=>by subst z;rw[getElem?_set_self hi] at hk;cases hk
   rw[getElem?_set_ne n1] at hj;rw[getElem?_set_ne n2] at hk;exact r.apart j k u u' c hjk hj hk ha
 ·exact⟨Hs,.refl _,r⟩
end
abbrev XW:=D->Hp->Hp->Prop
def RQ(Γ:Ct)(W:XW)(Hs H:Hp)(r:R)(Q:VK):Prop:=match r with
 |.ok s=>∀v Hs' H',Grow Hs H Hs' H'->ic Γ H Hs' H' s v->Q v H'
 |.exc x=>∀Hs' H',Grow Hs H Hs' H'->W x Hs' H'
def RL(Γ:Ct)(W:XW)(Hs H:Hp)(r:R)(Q:VK):Prop:=match r with
 |.ok s=>∀v Hs' H',Grow Hs H Hs' H'->Rep Γ H' s.val v->Q v H'
 |.exc x=>∀Hs' H',Grow Hs H Hs' H'->W x Hs' H'
def RB(W:XW)(Hs H:Hp)(r:R)(Q:Bool->Hp->Prop):Prop:=match r with
 |.ok s=>∃b,s.val=.bl b/\∀Hs' H',Grow Hs H Hs' H'->Q b H'
 |.exc x=>∀Hs' H',Grow Hs H Hs' H'->W x Hs' H'
section
variable{Γ:Ct}{W:XW}{Hs H Hs1 H1:Hp}{r:R}{Q Q':VK}
theorem RQ.grow(q:RQ Γ W Hs H r Q)(g:Grow Hs H Hs1 H1):RQ Γ W Hs1 H1 r Q:=by
 cases r with
 |ok s=>exact λv Hs' H' g' rs=>q v Hs' H' (g.trans g') (rs.back g.h)
 |exc x=>exact λHs' H' g'=>q Hs' H' (g.trans g')
theorem RQ.mono(q:RQ Γ W Hs H r Q)(h:∀v H,Q v H->Q' v H):RQ Γ W Hs H r Q':=by
 cases r with
 |ok s=>exact λv Hs' H' g' rs=>h _ _ (q v Hs' H' g' rs)
 |exc x=>exact q
theorem RL.mono(q:RL Γ W Hs H r Q)(h:∀v H,Q v H->Q' v H):RL Γ W Hs H r Q':=by
 cases r with
 |ok s=>exact λv Hs' H' g' rs=>h _ _ (q v Hs' H' g' rs)
 |exc x=>exact q
theorem RL.grow(q:RL Γ W Hs H r Q)(g:Grow Hs H Hs1 H1):RL Γ W Hs1 H1 r Q:=by
 cases r with
 |ok s=>exact λv Hs' H' g' rs=>q v Hs' H' (g.trans g') rs
 |exc x=>exact λHs' H' g'=>q Hs' H' (g.trans g')
end
inductive tD(Γ:Ct)(W:XW)(g:ME)(σ:L2.St)(H:Hp)(Q:VK):Prop
 |mk (B0 B1 Hs:Hp) (ρ:MEnv) (r:R) (re:RE Γ B0 B1 Hs H σ ρ) (e:g ρ=some r) (q:RQ Γ W Hs H r Q)
inductive tL(Γ:Ct)(W:XW)(g:ME)(σ:L2.St)(H:Hp)(Q:VK):Prop
 |mk (B0 B1 Hs:Hp) (ρ:MEnv) (r:R) (re:RE Γ B0 B1 Hs H σ ρ) (e:g ρ=some r) (q:RL Γ W Hs H r Q)
inductive tT(Γ:Ct)(W:XW)(g:ME)(σ:L2.St)(H:Hp)(Q:Bool->Hp->Prop):Prop
 |mk (B0 B1 Hs:Hp) (ρ:MEnv) (r:R) (re:RE Γ B0 B1 Hs H σ ρ) (e:g ρ=some r) (q:RB W Hs H r Q)
def pd(Γ:Ct)(W:XW):List ME->TA
 |[]=>Bc
 |g::gs=>sO (tD Γ W g) (pd Γ W gs)
def u6(Γ:Ct)(W:XW):List ME->TA
 |[]=>Bc
 |g::gs=>sO (tL Γ W g) (u6 Γ W gs)
section
variable{Γ:Ct}{W:XW}{B0 B1 Hs H:Hp}{σ:L2.St}{ρ:MEnv}{r:R}{Q Q':VK}{g ga:ME}{k:D->Option R}
theorem tD.mono(t:tD Γ W g σ H Q)(h:∀v H,Q v H->Q' v H):tD Γ W g σ H Q':=by
 obtain⟨B0,B1,Hs,ρ,r,re,e,q⟩:=t;exact⟨B0,B1,Hs,ρ,r,re,e,q.mono h⟩
theorem tL.mono(t:tL Γ W g σ H Q)(h:∀v H,Q v H->Q' v H):tL Γ W g σ H Q':=by
 obtain⟨B0,B1,Hs,ρ,r,re,e,q⟩:=t;exact⟨B0,B1,Hs,ρ,r,re,e,q.mono h⟩
theorem tL.toD(t:tL Γ W g σ H Q):tD Γ W g σ H Q:=by
 obtain⟨B0,B1,Hs,ρ,r,re,e,q⟩:=t;refine⟨B0,B1,Hs,ρ,r,re,e,?_⟩;cases r with
 |ok s=>exact λv Hs' H' g' rs=>q v Hs' H' g' (rs.look g')
 |exc x=>exact q
theorem bV(re:RE Γ B0 B1 Hs H σ ρ)(e:bh (ga ρ) k=some r)(q:RQ Γ W Hs H r Q):
  tD Γ W ga σ H (λv H1=>∃Hs1 d,Grow Hs H Hs1 H1/\RE Γ B0 B1 Hs1 H1 σ ρ/\Rep Γ Hs1 d v/\k d=some r/\RQ Γ W Hs1 H1 r Q):=by
 cases h:ga ρ with
 |none=>rw[h] at e;cases e
 |some x=>
  rw[h] at e;refine⟨B0,B1,Hs,ρ,x,re,h,?_⟩;cases x with
  |exc y=>cases e;exact q
  |ok s=>
   intro v Hs' H' g' rs;obtain⟨Hs'',g2,_,rp⟩:=rs.share g';exact⟨Hs'',s.val,g2,re.grow g2,rp,e,q.grow g2⟩
theorem cL:∀(gs:List ME){σ:L2.St}{H:Hp}{Q Q':List V->Hp->Prop},(∀v H,Q v H->Q' v H)->pd Γ W gs σ H Q->pd Γ W gs σ H Q'
 |[],_,_,_,_,h,t=>h _ _ t
 |g::gs,_,_,_,_,h,t=>tD.mono t λv H1 t'=>cL gs (λvs H2 z=>h _ _ z) t'
theorem n9:∀(gs:List ME){σ:L2.St}{H:Hp}{Q Q':List V->Hp->Prop},(∀v H,Q v H->Q' v H)->u6 Γ W gs σ H Q->u6 Γ W gs σ H Q'
 |[],_,_,_,_,h,t=>h _ _ t
 |g::gs,_,_,_,_,h,t=>tL.mono t λv H1 t'=>n9 gs (λvs H2 z=>h _ _ z) t'
theorem kr:∀(gs:List ME){Hs H:Hp}{k:List D->Option R},RE Γ B0 B1 Hs H σ ρ->cx gs ρ k=some r->RQ Γ W Hs H r Q->
  pd Γ W gs σ H (λvs H1=>∃Hs1 ds,Grow Hs H Hs1 H1/\RE Γ B0 B1 Hs1 H1 σ ρ/\RepL Γ Hs1 ds vs/\k ds=some r/\RQ Γ W Hs1 H1 r Q)
 |[],Hs,H,k,re,e,q=>⟨Hs,[],.refl re.b.i,re,.nil,e,q⟩
 |g::gs,Hs,H,k,re,e,q=>by
  refine(bV re e q).mono λv H1 ⟨Hs1,d,g1,re1,rp,e1,q1⟩=>?_;refine cL gs (λvs H2 ⟨Hs2,ds,g2,re2,rps,e2,q2⟩=>?_) (kr gs re1 e1 q1);exact⟨Hs2,d::ds,g1.trans g2,re2,.cons (rp.mono g2.s) rps,e2,q2⟩
theorem rq:∀(gs:List ME){Hs H:Hp}{k:List D->Option R}{d:D},RE Γ B0 B1 Hs H σ ρ->qX (cx gs ρ k)=some (.ok (.sh d))->RQ Γ W Hs H (.ok (.sh d)) Q->
  u6 Γ W gs σ H (λvs H1=>∃Hs1 ds,Grow Hs H Hs1 H1/\RE Γ B0 B1 Hs1 H1 σ ρ/\RepL Γ H1 ds vs/\qX (k ds)=some (.ok (.sh d))/\RQ Γ W Hs1 H1 (.ok (.sh d)) Q)
 |[],Hs,H,k,d,re,e,q=>⟨Hs,[],.refl re.b.i,re,.nil,e,q⟩
 |g::gs,Hs,H,k,d,re,e,q=>by
  have e':qX (bh (g ρ) λx=>cx gs ρ λds=>k (x::ds))=some (.ok (.sh d)):=e;cases h:g ρ with
  |none=>rw[h] at e';cases e'
  |some x=>
   rw[h] at e';cases x with
   |exc y=>cases e'
   |ok s=>
    refine⟨B0,B1,Hs,ρ,.ok s,re,h,λv Hs1 H1 g1 rp=>?_⟩;refine n9 gs (λvs H2 ⟨Hs2,ds,g2,re2,rps,e2,q2⟩=>?_) (rq gs (k:=λds=>k (s.val::ds)) (re.grow g1) e' (q.grow g1));exact⟨Hs2,s.val::ds,g1.trans g2,re2,.cons (rp.mono g2.h) rps,e2,q2⟩
end
theorem PE.imp{X:Cx}{e:Expr}{t t':TE}(h:PE X e t)(i:∀pins s σ H Q,aC X pins σ H s->t' σ H Q->t σ H Q):PE X e t':=λpins s σ H Q I q=>h pins s σ H Q I (i pins s σ H Q I q)
theorem PT.imp{X:Cx}{e:Expr}{t t':TT}(h:PT X e t)(i:∀pins s σ H Q,aC X pins σ H s->t' σ H Q->t σ H Q):PT X e t':=λpins s σ H Q I q=>h pins s σ H Q I (i pins s σ H Q I q)
theorem PW.imp{X:Cx}{e:Expr}{t t':TT}(h:PW X e t)(i:∀σ H Q,t' σ H Q->t σ H Q):PW X e t':=λw pins s σ H Q I q=>h w pins s σ H Q I (i σ H Q q)
theorem PS.imp{X:Cx}{e:Stmt}{t t':TS}(h:PS X e t)(i:∀pins s σ H D,aC X pins σ H s->t' D σ H->t D σ H):PS X e t':=λpins s σ H D I q=>h pins s σ H D I (i pins s σ H D I q)
theorem pQ.imp{X:Cx}{e:List Stmt}{t t':TS}(h:pQ X e t)(i:∀D σ H,t' D σ H->t D σ H):pQ X e t':=λpins s σ H D I q=>h pins s σ H D I (i D σ H q)
abbrev PD(X:Cx)(Γ:Ct)(W:XW)(e:Expr)(g:ME):Prop:=PE X e (tD Γ W g)
abbrev PL(X:Cx)(Γ:Ct)(W:XW)(e:Expr)(g:ME):Prop:=PE X e (tL Γ W g)
abbrev B4(X:Cx)(Γ:Ct)(W:XW)(e:Expr)(g:ME):Prop:=PT X e (tT Γ W g)
abbrev y7(X:Cx)(Γ:Ct)(W:XW)(e:Expr)(g:ME):Prop:=PW X e (tT Γ W g)
abbrev oo(X:Cx)(Γ:Ct)(W:XW)(es:List Expr)(gs:List ME):Prop:=PA X es (pd Γ W gs)
abbrev Ku(X:Cx)(Γ:Ct)(W:XW)(es:List Expr)(gs:List ME):Prop:=PA X es (u6 Γ W gs)
section
variable{X:Cx}{Γ:Ct}{W:XW}{e a b:Expr}{g ga gb:ME}{pos:Pos}
theorem PD.look(h:PD X Γ W e g):PL X Γ W e g:=PE.imp h λ_ _ _ _ _ _ t=>t.toD
theorem a0{i:Nat}(h:PE X e (nu i)):PD X Γ W e (a5 i):=PE.imp h λ_ _ σ H Q _ ⟨B0,B1,Hs,ρ,r,re,e1,q⟩=>by
 unfold a5 at e1;split at e1
 ·rename_i d hd;cases e1;obtain⟨v,e2,rp⟩:=re.sh i d hd;exact⟨v,e2,q v Hs H (.refl re.b.i) rp⟩
 ·cases e1
theorem cb{i:Nat}(h:PE X e (nu i)):PL X Γ W e (il i):=PE.imp h λ_ _ σ H Q _ ⟨B0,B1,Hs,ρ,r,re,e1,q⟩=>by
 unfold il at e1;split at e1
 ·cases e1
 ·cases e1
 ·cases e1
 ·cases e1
 ·cases e1
 ·rename_i s hno hno2 hno4 hno5 hno3 hd;cases e1;cases s with
  |two d a o=>exact(hno3 d a o rfl).elim
  |sh d=>
   obtain⟨v,e2,rp⟩:=re.sh i d hd;exact⟨v,e2,q v Hs H (.refl re.b.i) (Rep.mono re.b.i rp)⟩
  |own o=>
   obtain⟨c,ho,e2,_,_,e4,rp⟩:=re.own i o hd;exact⟨.ref c,e2,q (.ref c) Hs H (.refl re.b.i) (((rp.o (λkvs z=>by subst z;exact hno kvs rfl) (λb u z=>by subst z;exact hno2 b u rfl) (λkvs z=>by subst z;exact hno4 kvs rfl) λkvs z=>by subst z;exact hno5 kvs rfl).mono re.b.i).val e4)⟩
 ·cases e1
theorem pJ{v:V}{d:D}(h:PE X e (tC v))(rp:∀H,Rep Γ H d v):PD X Γ W e (eC d):=PE.imp h λ_ _ σ H Q _ ⟨B0,B1,Hs,ρ,r,re,e1,q⟩=>by
 cases e1;exact q v Hs H (.refl re.b.i) (rp Hs)
theorem aa{i j}:PD X Γ W (.Constant (.int i) j pos) (eC (.int i)):=pJ yQ λ_=>ai.mpr rfl
theorem As{i j}:PD X Γ W (.Constant (.bool i) j pos) (eC (.bl i)):=pJ JM λ_=>cT.mpr rfl
theorem HX{j}:PD X Γ W (.Constant .none j pos) (eC .non):=pJ HP λ_=>fu.mpr rfl
theorem c5{i j}:PD X Γ W (.Constant (.str i) j pos) (eC (.str i)):=pJ HL λ_=>bW.mpr rfl
theorem qy{i j pos'}:PD X Γ W (.UnaryOp .USub (.Constant (.int i) j pos') pos) (eC (.int (-i))):=PE.imp (GR Di yQ) λ_ _ σ H Q _ ⟨B0,B1,Hs,ρ,r,re,e1,q⟩=>by
 cases e1;exact⟨i,rfl,q _ Hs H (.refl re.b.i) (ic.of (ai.mpr rfl))⟩
inductive rD(Γ:Ct)(W:XW)(f:D->D->Option R)(x y:V)(H:Hp)(Q:VK):Prop
 |mk (Hs:Hp) (d1 d2:D) (r:R) (sm:Same Hs H) (r1:Rep Γ Hs d1 x) (r2:Rep Γ Hs d2 y) (e:f d1 d2=some r) (q:RQ Γ W Hs H r Q)
theorem ui{f:D->D->Option R}{σ:L2.St}{H:Hp}{Q:VK}(t:tD Γ W (a8 f ga gb) σ H Q):Jr (rD Γ W f) (tD Γ W ga) (tD Γ W gb) σ H Q:=by
 obtain⟨B0,B1,Hs,ρ,r,re,e,q⟩:=t;refine(bV re e q).mono λv H1 ⟨Hs1,d,g1,re1,rp,e1,q1⟩=>?_;refine(bV re1 e1 q1).mono λu H2 ⟨Hs2,d2,g2,re2,rp2,e2,q2⟩=>?_;exact⟨Hs2,d,d2,r,re2.b.i,rp.mono g2.s,rp2,e2,q2⟩
theorem au{op:Operator}{f:D->D->Option R}(ho:iU X (binaryOp op) (rD Γ W f))(ha:PD X Γ W a ga)(hb:PD X Γ W b gb):PD X Γ W (.BinOp a op b pos) (a8 f ga gb):=
 PE.imp (DO ho ha hb) λ_ _ _ _ _ _ t=>ui t
theorem uI{op:CmpOp}{f:D->D->Option R}(ho:iU X (compareOp op) (rD Γ W f))(ha:PD X Γ W a ga)(hb:PD X Γ W b gb)(hm:behindInMarks op b=false:=by first|exact DZ _|rfl):PD X Γ W (.Compare a [op] [b] pos) (a8 f ga gb):=
 PE.imp (FS ho ha hb hm) λ_ _ _ _ _ _ t=>ui t
theorem Dl{σ:L2.St}{H:Hp}{Q:Bool->Hp->Prop}(t:tT Γ W g σ H Q):tD Γ W g σ H (λx H'=>∃k,x=.bl k/\Q k H'):=by
 obtain⟨B0,B1,Hs,ρ,r,re,e,q⟩:=t;refine⟨B0,B1,Hs,ρ,r,re,e,?_⟩;cases r with
 |exc x=>exact q
 |ok s=>
  obtain⟨c,ec,q⟩:=q;intro v Hs' H' g' rs;obtain⟨_,g2,_,rp⟩:=rs.share g';rw[ec] at rp;exact⟨c,cT.mp rp,q _ _ g'⟩
theorem aE{op:CmpOp}{f:D->D->Option R}(ho:iU X (compareOp op) (rD Γ W f))(ha:PD X Γ W a ga)(hb:PD X Γ W b gb)(hm:behindInMarks op b=false:=by first|exact DZ _|rfl):B4 X Γ W (.Compare a [op] [b] pos) (a8 f ga gb):=
 PT.imp (FE ho ha hb hm) λ_ _ _ _ _ _ t=>ui (Dl t)
theorem mf(h:PD X Γ W e g)(he:∀whole,isTrue e X.env whole=(do let v ←whole;standAt e.pos;holding [v] (truthy v)):=by intro _;rfl):B4 X Γ W e g:=
 PT.imp (HD h he) λ_ _ _ _ _ _ t=>Dl t
section
variable{t u:ME}{rest:List Expr}
theorem tT.mono{σ:L2.St}{H:Hp}{Q Q':Bool->Hp->Prop}(h:tT Γ W g σ H Q)(k:∀b H,Q b H->Q' b H):tT Γ W g σ H Q':=by
 obtain⟨B0,B1,Hs,ρ,r,re,e,q⟩:=h;refine⟨B0,B1,Hs,ρ,r,re,e,?_⟩;cases r with
 |exc x=>exact q
 |ok s=>obtain⟨c,ec,q⟩:=q;exact⟨c,ec,λHs' H' g'=>k _ _ (q Hs' H' g')⟩
theorem RB.grow{Hs H Hs1 H1:Hp}{r:R}{Q:Bool->Hp->Prop}(q:RB W Hs H r Q)(g:Grow Hs H Hs1 H1):RB W Hs1 H1 r Q:=by
 cases r with
 |exc x=>exact λHs' H' g'=>q Hs' H' (g.trans g')
 |ok s=>obtain⟨c,ec,q⟩:=q;exact⟨c,ec,λHs' H' g'=>q Hs' H' (g.trans g')⟩
theorem jk{x:D}{k:Bool->Option R}{r:R}(h:asB x k=some r):∃c,x=.bl c/\k c=some r:=by
 cases x with
 |bl c=>exact⟨c,rfl,h⟩
 |_=>cases h
theorem pI(ha:B4 X Γ W a g):B4 X Γ W (.UnaryOp .Not a pos) (pj g):=PT.imp (HE ha) λ_ _ σ H Q _ t=>by
 obtain⟨B0,B1,Hs,ρ,r,re,e,q⟩:=t;have e':bh (g ρ) IS=some r:=e;cases h:g ρ with
 |none=>rw[h] at e';cases e'
 |some x=>
  rw[h] at e';refine⟨B0,B1,Hs,ρ,x,re,h,?_⟩;cases x with
  |exc y=>cases e';exact q
  |ok s=>
   obtain⟨c,ec,e2⟩:=jk (show asB s.val (λc=>okB (!c))=some r from e');cases e2;obtain⟨c',ec',q⟩:=q;cases ec';exact⟨c,ec,q⟩
theorem jU(ha:B4 X Γ W a g):y7 X Γ W (.BoolOp .And [a] pos) g:=FC ha
theorem uA(ha:B4 X Γ W a g):y7 X Γ W (.BoolOp .Or [a] pos) g:=HA ha
theorem jB(ha:B4 X Γ W a t)(hb:y7 X Γ W (.BoolOp .And (b::rest) pos) u):y7 X Γ W (.BoolOp .And (a::b::rest) pos) (fO t u):=PW.imp (HB ha hb) λσ H Q h=>by
 obtain⟨B0,B1,Hs,ρ,r,re,e,q⟩:=h;have e':bh (t ρ) (λx=>asB x λc=>if c=true then u ρ else okB false)=some r:=e;cases h:t ρ with
 |none=>rw[h] at e';cases e'
 |some x=>
  rw[h] at e';refine⟨B0,B1,Hs,ρ,x,re,h,?_⟩;cases x with
  |exc y=>cases e';exact q
  |ok s=>
   obtain⟨c,ec,e2⟩:=jk (show asB s.val _=some r from e');refine⟨c,ec,λHs' H' g'=>?_⟩;cases c with
   |true=>exact⟨B0,B1,Hs',ρ,r,re.grow g',e2,q.grow g'⟩
   |false=>
    cases e2;obtain⟨c',ec',q⟩:=q;cases ec';exact q _ _ g'
theorem qk(ha:B4 X Γ W a t)(hb:y7 X Γ W (.BoolOp .Or (b::rest) pos) u):y7 X Γ W (.BoolOp .Or (a::b::rest) pos) (AJ t u):=PW.imp (JI ha hb) λσ H Q h=>by
 obtain⟨B0,B1,Hs,ρ,r,re,e,q⟩:=h;have e':bh (t ρ) (λx=>asB x λc=>if c=true then okB true else u ρ)=some r:=e;cases h:t ρ with
 |none=>rw[h] at e';cases e'
 |some x=>
  rw[h] at e';refine⟨B0,B1,Hs,ρ,x,re,h,?_⟩;cases x with
  |exc y=>cases e';exact q
  |ok s=>
   obtain⟨c,ec,e2⟩:=jk (show asB s.val _=some r from e');refine⟨c,ec,λHs' H' g'=>?_⟩;cases c with
   |false=>exact⟨B0,B1,Hs',ρ,r,re.grow g',e2,q.grow g'⟩
   |true=>
    cases e2;obtain⟨c',ec',q⟩:=q;cases ec';exact q _ _ g'
theorem y7.pt(h:y7 X Γ W e g):B4 X Γ W e g:=PW.pt h
theorem yR{op}(h:PD X Γ W a g):PD X Γ W (.BoolOp op [a] pos) g:=HM h
theorem uJ(ha:PD X Γ W a t)(hb:PD X Γ W (.BoolOp .And (b::rest) pos) u):PD X Γ W (.BoolOp .And (a::b::rest) pos) (fO t u):=PE.imp (HU ha hb) λ_ _ σ H Q _ h=>by
 obtain⟨B0,B1,Hs,ρ,r,re,e,q⟩:=h;refine(bV (k:=λx=>asB x λc=>if c=true then u ρ else okB false) re e q).mono λv H1 ⟨Hs1,d,g1,re1,rp,e1,q1⟩=>?_;obtain⟨c,rfl,e2⟩:=jk e1;refine⟨c,cT.mp rp,?_⟩;cases c with
 |true=>exact⟨B0,B1,Hs1,ρ,r,re1,e2,q1⟩
 |false=>cases e2;exact q1 _ Hs1 H1 (.refl re1.b.i) (ic.of (cT.mpr rfl))
theorem HW(ha:PD X Γ W a g):PD X Γ W (.UnaryOp .Not a pos) (pj g):=PE.imp (HN ha) λ_ _ σ H Q _ h=>by
 obtain⟨B0,B1,Hs,ρ,r,re,e,q⟩:=h;refine(bV (k:=IS) re e q).mono λv H1 ⟨Hs1,d,g1,re1,rp,e1,q1⟩=>?_;obtain⟨c,rfl,e2⟩:=jk e1;cases e2;exact⟨c,cT.mp rp,q1 _ Hs1 H1 (.refl re1.b.i) (ic.of (cT.mpr rfl))⟩
theorem qz{c:Expr}(hc:B4 X Γ W c g)(ha:PD X Γ W a ga)(hb:PD X Γ W b gb):PD X Γ W (.IfExp c a b pos) (Gq g ga gb):=PE.imp (DQ hc ha hb) λ_ _ σ H Q _ h=>by
 obtain⟨B0,B1,Hs,ρ,r,re,e,q⟩:=h;have e':bh (g ρ) (λx=>asB x λc=>if c=true then ga ρ else gb ρ)=some r:=e;cases h:g ρ with
 |none=>rw[h] at e';cases e'
 |some x=>
  rw[h] at e';refine⟨B0,B1,Hs,ρ,x,re,h,?_⟩;cases x with
  |exc y=>cases e';exact q
  |ok s=>
   obtain⟨c,ec,e2⟩:=jk (show asB s.val _=some r from e');refine⟨c,ec,λHs' H' g'=>?_⟩;cases c with
   |true=>exact⟨B0,B1,Hs',ρ,r,re.grow g',e2,q.grow g'⟩
   |false=>exact⟨B0,B1,Hs',ρ,r,re.grow g',e2,q.grow g'⟩
end
theorem a7:oo X Γ W [] []:=dY
theorem cM{es:List Expr}{gs:List ME}(h:PD X Γ W e g)(t:oo X Γ W es gs)(hs:starEach (e::es) X.env=(false,eval e X.env)::starEach es X.env:=by rfl):oo X Γ W (e::es) (g::gs):=br h t hs
theorem bP:Ku X Γ W [] []:=dY
theorem bc{es:List Expr}{gs:List ME}(h:PL X Γ W e g)(t:Ku X Γ W es gs)(hs:starEach (e::es) X.env=(false,eval e X.env)::starEach es X.env:=by rfl):Ku X Γ W (e::es) (g::gs):=br h t hs
inductive Dr(Γ:Ct)(W:XW)(F:List D->Option R)(vs:List V)(H:Hp)(Q:VK):Prop
 |mk (Hs:Hp) (ds:List D) (r:R) (sm:Same Hs H) (rl:RepL Γ Hs ds vs) (e:F ds=some r) (q:RQ Γ W Hs H r Q) (tb:Same Γ.tb Hs)
theorem nv{F:List D->Option R}{gs:List ME}{σ:L2.St}{H:Hp}{Q:VK}(t:tD Γ W (ak F gs) σ H Q):pd Γ W gs σ H λvs H1=>Dr Γ W F vs H1 Q:=by
 obtain⟨B0,B1,Hs,ρ,r,re,e,q⟩:=t;exact cL gs (λvs H1 ⟨Hs1,ds,_,re1,rp,e1,q1⟩=>⟨Hs1,ds,r,re1.b.i,rp,e1,q1,re1.tb⟩) (kr gs re e q)
theorem Dn{F:List D->Option R}{gs:List ME}{σ:L2.St}{H:Hp}{Q:VK}(t:tD Γ W (aY F gs) σ H Q):u6 Γ W gs σ H λvs H1=>Dr Γ W F vs H1 Q:=by
 obtain⟨B0,B1,Hs,ρ,r,re,e,q⟩:=t;have e':qX (cx gs ρ F)=some r:=e;obtain⟨d,rfl⟩:∃d,r=.ok (.sh d):=by
  unfold qX at e';split at e'
  ·split at e'
   ·cases e';exact⟨_,rfl⟩
   ·cases e'
  ·cases e'
 refine n9 gs (λvs H1 ⟨Hs1,ds,g1,re1,rp,e1,q1⟩=>?_) (rq gs re e' q);unfold qX at e1;split at e1
 ·rename_i s hs;split at e1
  ·rename_i hf;cases e1;refine⟨H1,ds,_,.refl _,rp,hs,λv Hs' H' g' rs=>q1 v Hs1 H' (.only re1.b.i g'.h) ?_,re1.tb.trans re1.b.i⟩;exact Dz (rs.look g') hf
  ·cases e1
 ·cases e1
section
variable{CX:B7}{k:Nat}{f:Addr}{fd:FuncData}{ps:List Str}{x:Str}{p:Pos}{es:List Expr}{gs:List ME}{F:List D->Option R}
def Fu(Γ:Ct)(W:XW)(F:List D->Option R):Sp:=λvs H Q _=>Dr Γ W F vs H Q
theorem FY(G:dQ X.prog X.w X.K X.mg X.base l3 k f fd ps (Fu Γ W F))(hr:bN k X.A)(hg:Gl X x)(hm:X.mg x=some (.ref f))(hk:keepIn X.K (.ref f)=true)(hb:gy X.K fd ps [])
  (ha:oo X Γ W (e::es) gs) (hdb:(x == ("__debug__":Str))=false:=by decide) (he:starEach (e::es) X.env=(false,eval e X.env)::starEach es X.env:=by rfl) (hpl:(backTo pos (starEach es X.env)).any (·.1)=false:=by rfl):
  PD X Γ W (.Call (.Name x p) (e::es) [] pos) (ak F gs):=
 PE.imp (uE (E:=E0) (dvs:=[]) (ds:=[]) G hr hg hm hk hb .nil oZ ha hdb he hpl) λ_ _ _ _ _ _ t=>cL gs (λvs H1 z=>by show Dr Γ W F (vs++[]) H1 _;rw[append_nil];exact z) (nv t)
end
section
variable{x:Str}{p:Pos}{es:List Expr}{gs:List ME}{F:List D->Option R}{id T:String}
theorem HZ(hc:dD X (.builtin id) (Dr Γ W F))(hg:Gl X x)(hm:X.mg x=none)(hv:bootBuiltins x=some (.builtin id))(ha:oo X Γ W (e::es) gs)(hn:x ≠ "__name__" := by decide)(hdb:(x == ("__debug__":Str))=false:=by decide)
  (he:starEach (e::es) X.env=(false,eval e X.env)::starEach es X.env:=by rfl) (hpl:(backTo pos (starEach es X.env)).any (·.1)=false:=by rfl):PD X Γ W (.Call (.Name x p) (e::es) [] pos) (ak F gs):=
 PE.imp (lu hc hg hm hv ha hn hdb he hpl) λ_ _ _ _ _ _ t=>nv t
theorem bO(hc:dD X (.builtin id) (Dr Γ W F))(hg:Gl X x)(hm:X.mg x=none)(hv:bootBuiltins x=some (.builtin id))(ha:Ku X Γ W (e::es) gs)(hn:x ≠ "__name__" := by decide)(hdb:(x == ("__debug__":Str))=false:=by decide)
  (he:starEach (e::es) X.env=(false,eval e X.env)::starEach es X.env:=by rfl) (hpl:(backTo pos (starEach es X.env)).any (·.1)=false:=by rfl):PD X Γ W (.Call (.Name x p) (e::es) [] pos) (aY F gs):=
 PE.imp (lu hc hg hm hv ha hn hdb he hpl) λ_ _ _ _ _ _ t=>Dn t
theorem jV(hc:dD X (.type T) (Dr Γ W F))(hg:Gl X x)(hm:X.mg x=none)(hv:bootBuiltins x=some (.type T))(ha:oo X Γ W (e::es) gs)(hn:x ≠ "__name__" := by decide)(hdb:(x == ("__debug__":Str))=false:=by decide)
  (he:starEach (e::es) X.env=(false,eval e X.env)::starEach es X.env:=by rfl) (hpl:(backTo pos (starEach es X.env)).any (·.1)=false:=by rfl):PD X Γ W (.Call (.Name x p) (e::es) [] pos) (ak F gs):=
 PE.imp (gA hc hg hm hv ha hn hdb he hpl) λ_ _ _ _ _ _ t=>nv t
end
theorem aA{es:List Expr}{gs:List ME}{x1}(ha:oo X Γ W es gs):PD X Γ W (.Tuple es x1 pos) (aD gs):=PE.imp (DM ha) λ_ _ σ H Q _ t=>by
 refine cL gs (λvs H1 ⟨Hs1,ds,r,sm,rp,e1,q1,_⟩=>?_) (nv t)
 try dsimp only at e1
 split at e1
 ·rename_i hl;cases e1;refine⟨by rw[←rp.length];exact le_trans hl (by decide),λp hp=>q1 _ (c8 Hs1 p (.tup vs)) _ (.new sm hp) ?_⟩
  exact bF.mpr ⟨p,vs,rfl,.of aB,rp.mono (aX (sm.free hp))⟩
 ·cases e1
theorem cA{es:List Expr}{gs:List ME}(ha:oo X Γ W es gs):PD X Γ W (.List es pos) (fN gs):=PE.imp (HQ ha) λ_ _ σ H Q _ t=>by
 refine cL gs (λvs H1 ⟨Hs1,ds,r,sm,rp,e1,q1,_⟩=>?_) (nv t)
 try dsimp only at e1
 split at e1
 ·rename_i hl;cases e1;refine⟨by rw[←rp.length];exact le_trans hl (by decide),λp hp=>q1 _ Hs1 _ (.newOwn sm hp) ?_⟩
  exact⟨p,_,rfl,hp,sm.free hp,aB,vs,rfl,rp⟩
 ·cases e1
theorem aj{f:D->D->Option R}(ho:Fm X (rD Γ W f))(ha:PD X Γ W a ga)(hb:PD X Γ W b gb)(hs:B3 b:=by exact λ_ _=>rfl):PD X Γ W (.Subscript a b pos) (a8 f ga gb):=
 PE.imp (JL ho ha hb hs) λ_ _ _ _ _ _ t=>ui t
end
def EQ(Γ:Ct)(W:XW)(B0 B1 Hs:Hp)(D:pB):oq->Prop
 |.next ρ'=>∀σ' Hs' H',Same Hs Hs'->RE Γ B0 B1 Hs' H' σ' ρ'->D.nx σ' H'
 |.brk ρ'=>∀σ' Hs' H',Same Hs Hs'->RE Γ B0 B1 Hs' H' σ' ρ'->D.bk σ' H'
 |.cont ρ'=>∀σ' Hs' H',Same Hs Hs'->RE Γ B0 B1 Hs' H' σ' ρ'->D.ct σ' H'
 |.ret s=>∀v Hs' H',Same Hs Hs'->Grow B0 B1 Hs' H'->ic Γ B1 Hs' H' s v->D.rt v H'
 |.exc x=>∀Hs' H',Same Hs Hs'->Grow B0 B1 Hs' H'->W x Hs' H'
theorem EQ.from{Γ:Ct}{W:XW}{B0 B1 Hs Hs1:Hp}{D:pB}{o:oq}(q:EQ Γ W B0 B1 Hs D o)(k:Same Hs Hs1):EQ Γ W B0 B1 Hs1 D o:=by
 cases o with
 |next ρ=>exact λσ' Hs' H' h=>q σ' Hs' H' (k.trans h)
 |brk ρ=>exact λσ' Hs' H' h=>q σ' Hs' H' (k.trans h)
 |cont ρ=>exact λσ' Hs' H' h=>q σ' Hs' H' (k.trans h)
 |ret s=>exact λv Hs' H' h=>q v Hs' H' (k.trans h)
 |exc x=>exact λHs' H' h=>q Hs' H' (k.trans h)
inductive tS(Γ:Ct)(W:XW)(g:MC)(D:pB)(σ:L2.St)(H:Hp):Prop
 |mk (B0 B1 Hs:Hp) (ρ:MEnv) (o:oq) (re:RE Γ B0 B1 Hs H σ ρ) (e:g ρ=some o) (q:EQ Γ W B0 B1 Hs D o)
abbrev sJ(X:Cx)(Γ:Ct)(W:XW)(st:Stmt)(g:MC):Prop:=PS X st (tS Γ W g)
abbrev l0(X:Cx)(Γ:Ct)(W:XW)(st:List Stmt)(g:MC):Prop:=pQ X st (tS Γ W g)
section
variable{X:Cx}{Γ:Ct}{W:XW}{st:Stmt}{rest a b:List Stmt}{g g1 g2:MC}{ge gc:ME}{e c:Expr}{pos:Pos}
theorem aO:l0 X Γ W [] bg:=pQ.imp Ap λD σ H ⟨B0,B1,Hs,ρ,o,re,e,q⟩=>by
 cases e;exact q σ Hs H (.refl _) re
theorem af(h1:sJ X Γ W st g1)(h2:l0 X Γ W rest g2):l0 X Γ W (st::rest) (aw g1 g2):=pQ.imp (wt h1 h2) λD σ H ⟨B0,B1,Hs,ρ,o,re,e,q⟩=>by
 unfold aw at e;cases h:g1 ρ with
 |none=>rw[h] at e;cases e
 |some u=>
  rw[h] at e;refine⟨B0,B1,Hs,ρ,u,re,h,?_⟩;cases u with
  |next ρ'=>exact λσ' Hs' H' sm re'=>⟨B0,B1,Hs',ρ',o,re',e,q.from sm⟩
  |brk ρ'=>cases e;exact q
  |cont ρ'=>cases e;exact q
  |ret s=>cases e;exact q
  |exc x=>cases e;exact q
theorem ah(h:sJ X Γ W st g):l0 X Γ W [st] g:=FF h
theorem aT{i:Nat}(h:l0 X Γ W rest g):l0 X Γ W rest (eV i g):=pQ.imp h λD σ H ⟨B0,B1,Hs,ρ,o,re,e,q⟩=>by
 obtain⟨Hs',sm,re'⟩:=re.dem i;exact⟨B0,B1,Hs',dem i ρ,o,re',e,q.from sm⟩
theorem Be{B0 B1 Hs H:Hp}{σ:L2.St}{ρ:MEnv}{o:oq}{D:pB}{k:S->Option oq}(re:RE Γ B0 B1 Hs H σ ρ)(e:jj (ge ρ) k=some o)(q:EQ Γ W B0 B1 Hs D o):
  tD Γ W ge σ H (λv H1=>∃Hs1 s,Grow Hs H Hs1 H1/\ic Γ H Hs1 H1 s v/\k s=some o):=by
 cases h:ge ρ with
 |none=>rw[h] at e;cases e
 |some x=>
  rw[h] at e;refine⟨B0,B1,Hs,ρ,x,re,h,?_⟩;cases x with
  |exc y=>cases e;exact λHs' H' g'=>q Hs' H' g'.s (re.b.trans g')
  |ok s=>exact λv Hs' H' g' rs=>⟨Hs',s,g',rs,e⟩
theorem yG{i:Nat}{t:TE}(h:PS X st (Do (tD Γ W ge) (tJ i)))(hi:i<X.N.length):sJ X Γ W st (aL i ge):=PS.imp h λpins s σ H D I ⟨B0,B1,Hs,ρ,o,re,e,q⟩=>by
 refine(Be re e q).mono λv H1 ⟨Hs1,s,g1,rs,e1⟩=>?_;cases e1;exact q _ Hs1 H1 g1.s (re.setS g1 (by rw[I.len];exact hi) rs)
theorem FG{i:Nat}{x:Str}{pos':Pos}(hN:X.N.Nodup)(hi:X.N[i]?=some x)(hx:yd X.env.scope x)(he:PD X Γ W e ge)(hs:swapsWith e (some (.Name x pos')) pos.line X.env=pure false:=by rfl)
  (hf:X.fn x=true\/X.env.scope.names.lookup x=some .local:=by first|exact .inl rfl|exact .inr rfl|assumption):sJ X Γ W (.Assign [.Name x pos'] e pos) (aL i ge):=
 yG (t:=tD Γ W ge) (yI hN hi hx he hs hf) (List.getElem?_eq_some_iff.mp hi).1
theorem ar(he:PD X Γ W e ge):sJ X Γ W (.Return (some e) pos) (aV ge):=PS.imp (DG he) λpins s σ H D I ⟨B0,B1,Hs,ρ,o,re,e,q⟩=>by
 refine(Be re e q).mono λv H1 ⟨Hs1,s,g1,rs,e1⟩=>?_;cases e1;exact q v Hs1 H1 g1.s (re.b.trans g1) (rs.back re.b.h)
theorem u5{x:D}{k:Bool->Option oq}{o:oq}(h:asBO x k=some o):∃c,x=.bl c/\k c=some o:=by
 cases x with
 |bl c=>exact⟨c,rfl,h⟩
 |_=>cases h
theorem bp(hc:B4 X Γ W c gc)(ha:l0 X Γ W a g1)(hb:l0 X Γ W b g2):sJ X Γ W (.If c a b pos) (iq gc g1 g2):=PS.imp (JJ hc ha hb) λpins s σ H D I ⟨B0,B1,Hs,ρ,o,re,e,q⟩=>by
 have e':jj (gc ρ) (λs=>asBO s.val λt=>if t=true then g1 ρ else g2 ρ)=some o:=e;cases h:gc ρ with
 |none=>rw[h] at e';cases e'
 |some x=>
  rw[h] at e';refine⟨B0,B1,Hs,ρ,x,re,h,?_⟩;cases x with
  |exc y=>cases e';exact λHs' H' g'=>q Hs' H' g'.s (re.b.trans g')
  |ok s=>
   obtain⟨t,et,e2⟩:=u5 (show asBO s.val _=some o from e');refine⟨t,et,λHs' H' g'=>?_⟩;cases t with
   |true=>exact⟨B0,B1,Hs',ρ,o,re.grow g',e2,q.from g'.s⟩
   |false=>exact⟨B0,B1,Hs',ρ,o,re.grow g',e2,q.from g'.s⟩
structure Fg(Γ:Ct)(Hs0:Hp)(J:It)(ds:List D):Prop where
 go:∀i Hs H,i<ds.length->Same Hs0 Hs->Same Hs H->J.go i H
 stop:∀Hs H,Same Hs0 Hs->Same Hs H->J.stop ds.length H
 yld:∀i Hs H x H',i<ds.length->Same Hs0 Hs->Same Hs H->J.yld i H x H'->∃d Hs',ds[i]?=some d/\Grow Hs H Hs' H'/\Rep Γ Hs' d x
def IQ(Γ:Ct)(W:XW)(Hs H:Hp)(r:RI)(Q:It->Hp->Prop):Prop:=match r with
 |.ok ds=>∀J Hs' H',Grow Hs H Hs' H'->Fg Γ Hs' J ds->Q J H'
 |.exc x=>∀Hs' H',Grow Hs H Hs' H'->W x Hs' H'
inductive tI(Γ:Ct)(W:XW)(gi:MI)(σ:L2.St)(H:Hp)(Q:It->Hp->Prop):Prop
 |mk (B0 B1 Hs:Hp) (ρ:MEnv) (r:RI) (re:RE Γ B0 B1 Hs H σ ρ) (e:gi ρ=some r) (q:IQ Γ W Hs H r Q)
abbrev GG(X:Cx)(Γ:Ct)(W:XW)(tg iter:Expr)(gi:MI):Prop:=PI X tg iter (tI Γ W gi)
theorem PI.imp{X:Cx}{tg e:Expr}{t t':TI}(h:PI X tg e t)(i:∀pins s σ H Q,aC X pins σ H s->t' σ H Q->t σ H Q):PI X tg e t':=λpins s σ H Q I q=>h pins s σ H Q I (i pins s σ H Q I q)
inductive Jw(Γ:Ct)(js:List Nat)(bd:MB)(v:V)(σ:L2.St)(H:Hp)(Q:L2.St->Hp->Prop):Prop
 |mk (B0 B1 Hs:Hp) (ρ:MEnv) (d:D) (ρ':MEnv) (re:RE Γ B0 B1 Hs H σ ρ) (rp:Rep Γ Hs d v) (e:bd d ρ=some ρ') (q:∀σ':L2.St,RE Γ B0 B1 Hs H σ' ρ'->(∀j:Nat,j∉js->σ'[j]?=σ[j]?)->Q σ' H)
abbrev Hi(X:Cx)(Γ:Ct)(tg:Expr)(js:List Nat)(bd:MB):Prop:=PG X tg (Jw Γ js bd)
theorem PG.imp{X:Cx}{tg:Expr}{t t':TG}(h:PG X tg t)(i:∀pins s v σ H Q,aC X pins σ H s->t' v σ H Q->t v σ H Q):PG X tg t':=λpins s σ H v u Q I r q=>h pins s σ H v u Q I r (i pins s v σ H Q I q)
theorem DV{j:Nat}{x:Str}(hN:X.N.Nodup)(hi:X.N[j]?=some x)(hx:yd X.env.scope x)(hf:X.fn x=true\/X.env.scope.names.lookup x=some .local:=by first|exact .inl rfl|exact .inr rfl|assumption):Hi X Γ (.Name x pos) [j] (aW j):=
 PG.imp (uD hN hi hx hf) λpins s v σ H Q I ⟨B0,B1,Hs,ρ,d,ρ',re,rp,e,q⟩=>by
  cases e;exact q _ (re.setSh (by rw[I.len];exact(List.getElem?_eq_some_iff.mp hi).1) rp) λi hi=>getElem?_set_ne λz=>hi (by simp[z])
theorem DU{j k:Nat}{x y:Str}{px py:Pos}{kt:Nat}(hK:X.K=Γ.K)(hc:X.calm=true)(hN:X.N.Nodup)(hj:X.N[j]?=some x)(hk:X.N[k]?=some y)(hx:yd X.env.scope x)(hy:yd X.env.scope y)
  (fx:X.fn x=true\/X.env.scope.names.lookup x=some .local:=by first|exact .inl rfl|exact .inr rfl|assumption) (fy:X.fn y=true\/X.env.scope.names.lookup y=some .local:=by first|exact .inl rfl|exact .inr rfl|assumption)
  (hn:(assignEach [.Name x px,.Name y py] X.env).length=2:=by rfl) (hst:(assignEach [.Name x px,.Name y py] X.env).findIdx? (·.1)=none:=by rfl)
  (hs1:(assignEach [.Name x px,.Name y py] X.env).map (·.2)=assign (.Name x px) X.env::(assignEach [.Name y py] X.env).map (·.2):=by rfl) (hs2:(assignEach [.Name y py] X.env).map (·.2)=assign (.Name y py) X.env::(assignEach [] X.env).map (·.2):=by rfl):
  Hi X Γ (.Tuple [.Name x px,.Name y py] kt pos) [j,k] (bTup [j,k]):=
 PG.imp (HJ hc (wy (uD hN hj hx fx) (wy (uD hN hk hy fy) FO hs2) hs1) hn hst) λpins s v σ H Q I ⟨B0,B1,Hs,ρ,d,ρ',re,rp,e,q⟩=>by
  have lj:j<σ.length:=by rw[I.len];exact(List.getElem?_eq_some_iff.mp hj).1
  have lk:k<σ.length:=by rw[I.len];exact(List.getElem?_eq_some_iff.mp hk).1
  cases d with
  |tup ds=>
   unfold bTup at e;dsimp only at e;split at e
   ·rename_i hl;cases e
    match ds,hl with
    |[d1,d2],_=>
     obtain⟨a,xs,rfl,sq,rl⟩:=bF.mp rp;obtain⟨x1,r1,rfl,q1,rl⟩:=aZ.mp rl;obtain⟨x2,r2,rfl,q2,rl⟩:=aZ.mp rl;obtain rfl:=dI.mp rl;refine⟨a,[x1,x2],rfl,by rw[hK];exact cu re.b.i sq,rfl,x1,[x2],rfl,x2,[],rfl,rfl,?_⟩
     exact q _ ((re.setSh lj q1).setSh (by rw[length_set];exact lk) q2) λi hi=>by
      rw[getElem?_set_ne λz=>hi (by simp[z]),getElem?_set_ne λz=>hi (by simp[z])]
   ·cases e
  |_=>cases e
theorem EO{js:List Nat}{bd:MB}{body:MC}{ds:List D}{J:It}{D:pB}{B0 B1 Hs0:Hp}{o:oq}(w:Fg Γ Hs0 J ds)(q:EQ Γ W B0 B1 Hs0 D o){σ:L2.St}{H:Hp}{ρ:MEnv}(re:RE Γ B0 B1 Hs0 H σ ρ)(e:forD bd body ds ρ=some o):
  ∃Wv:Nat->Nat->L2.St->Hp->Prop,(∃m,Wv 0 m σ H)/\∀i m σ H,Wv i m σ H->
   (J.stop i H/\D.nx σ H)\/(J.go i H/\∃N:L2.St->Hp->Prop,(∀σ' H',N σ' H'->∃m',m'<m/\Wv (i+1) m' σ' H')/\∀x H',J.yld i H x H'->Jw Γ js bd x σ H' λσ2 H2=>tS Γ W body {D with nx:=N,ct:=N,bk:=D.nx} σ2 H2):=by
 refine⟨λi m σ H=>m=ds.length - i/\i<=ds.length/\∃Hs ρ,Same Hs0 Hs/\RE Γ B0 B1 Hs H σ ρ/\forD bd body (ds.drop i) ρ=some o,⟨_,rfl,zero_le _,Hs0,ρ,.refl _,re,e⟩,?_⟩
 rintro i m σ H ⟨rfl,hi,Hs,ρ,sm,re,e⟩
 by_cases hlt:i<ds.length
 ·refine .inr ⟨w.go i Hs H hlt sm re.b.i,λσ' H'=>∃Hs' ρ',Same Hs0 Hs'/\RE Γ B0 B1 Hs' H' σ' ρ'/\forD bd body (ds.drop (i+1)) ρ'=some o,λσ' H' ⟨Hs',ρ',s',r',e'⟩=>⟨_,by omega,rfl,hlt,Hs',ρ',s',r',e'⟩,λx H' y=>?_⟩
  obtain⟨d,Hs',ed,g',rp⟩:=w.yld i Hs H x H' hlt sm re.b.i y;have hd:ds.drop i=d::ds.drop (i+1):=by
   rw[List.drop_eq_getElem_cons hlt];congr 1;rw[getElem?_eq_getElem hlt] at ed;exact Option.some.inj ed
  rw[hd] at e;unfold forD at e;cases h:bd d ρ with
  |none=>rw[h] at e;cases e
  |some ρ1=>
   rw[h] at e;dsimp only at e;refine⟨B0,B1,Hs',ρ,d,ρ1,re.grow g',rp,h,λσ2 re2 _=>?_⟩;cases hb:body ρ1 with
   |none=>rw[hb] at e;cases e
   |some u=>
    rw[hb] at e;refine⟨B0,B1,Hs',ρ1,u,re2,hb,?_⟩;have s1:Same Hs0 Hs':=sm.trans g'.s;cases u with
    |next ρ2=>exact λσ' Hs2 H2 s2 re3=>⟨Hs2,ρ2,s1.trans s2,re3,e⟩
    |cont ρ2=>exact λσ' Hs2 H2 s2 re3=>⟨Hs2,ρ2,s1.trans s2,re3,e⟩
    |brk ρ2=>cases e;exact λσ' Hs2 H2 s2 re3=>q σ' Hs2 H2 (s1.trans s2) re3
    |ret s=>cases e;exact λv Hs2 H2 s2=>q v Hs2 H2 (s1.trans s2)
    |exc x=>cases e;exact λHs2 H2 s2=>q Hs2 H2 (s1.trans s2)
 ·have ei:i=ds.length:=by omega
  subst ei;rw[List.drop_length] at e;cases e;exact .inl ⟨w.stop Hs H sm re.b.i,q σ Hs H sm re⟩
theorem gW{tg iter:Expr}{gi:MI}{js:List Nat}{bd:MB}{body:List Stmt}(hp:PassesOwn (model X.prog X.w) X.A X.env X.xe)(hc:X.calm=true)(hi:GG X Γ W tg iter gi)(hg:Hi X Γ tg js bd)(hb:l0 X Γ W body g)
  (hs:∀x,foldedSetIterable iter X.env x=pure x:=by intro _;rfl):sJ X Γ W (.For tg iter body [] pos) (mw gi bd g):=PS.imp (HG hp hc hi hg hb hs) λpins s σ H D I ⟨B0,B1,Hs,ρ,o,re,e,q⟩=>by
 unfold mw at e;cases h:gi ρ with
 |none=>rw[h] at e;cases e
 |some r=>
  rw[h] at e;refine⟨B0,B1,Hs,ρ,r,re,h,?_⟩;cases r with
  |exc x=>cases e;exact λHs' H' g'=>q Hs' H' g'.s (re.b.trans g')
  |ok ds=>exact λJ Hs' H' g' w=>EO w (q.from g'.s) (re.grow g') e
theorem yf{body:MC}{D:pB}{B0 B1 Hs0:Hp}{o:oq}(q:EQ Γ W B0 B1 Hs0 D o)(n:Nat){σ:L2.St}{H:Hp}{ρ:MEnv}(re:RE Γ B0 B1 Hs0 H σ ρ)(e:eB gc body n ρ=some o):Dk (tT Γ W gc) (tS Γ W body) D σ H:=by
 refine⟨λm σ H=>∃Hs ρ,Same Hs0 Hs/\RE Γ B0 B1 Hs H σ ρ/\eB gc body m ρ=some o,⟨n,Hs0,ρ,.refl _,re,e⟩,?_⟩
 rintro m σ H ⟨Hs,ρ,sm,re,e⟩
 cases m with
 |zero=>cases e
 |succ m=>
  have e':jj (gc ρ) (λs=>asBO s.val λt=>if t=true then(match body ρ with
   |some (.next ρ2)=>eB gc body m ρ2
   |some (.cont ρ2)=>eB gc body m ρ2
   |some (.brk ρ2)=>some (.next ρ2)
   |o=>o) else some (.next ρ))=some o:=e
  cases h:gc ρ with
  |none=>rw[h] at e';cases e'
  |some x=>
   rw[h] at e';refine⟨B0,B1,Hs,ρ,x,re,h,?_⟩;cases x with
   |exc y=>cases e';exact λHs' H' g'=>q Hs' H' (sm.trans g'.s) (re.b.trans g')
   |ok s=>
    obtain⟨t,et,e2⟩:=u5 (show asBO s.val _=some o from e');refine⟨t,et,λHs' H' g'=>?_⟩;have s1:Same Hs0 Hs':=sm.trans g'.s;cases t with
    |false=>
     cases e2;exact q σ Hs' H' s1 (re.grow g')
    |true=>
     refine⟨λσ' H'=>∃Hs' ρ',Same Hs0 Hs'/\RE Γ B0 B1 Hs' H' σ' ρ'/\eB gc body m ρ'=some o,λσ' H' z=>⟨m,lt_succ_self _,z⟩,?_⟩;have e3:=e2;rw[if_pos rfl] at e3;cases hb:body ρ with
     |none=>rw[hb] at e3;cases e3
     |some u=>
      rw[hb] at e3;refine⟨B0,B1,Hs',ρ,u,re.grow g',hb,?_⟩;cases u with
      |next ρ2=>exact λσ' Hs2 H2 s2 re3=>⟨Hs2,ρ2,s1.trans s2,re3,e3⟩
      |cont ρ2=>exact λσ' Hs2 H2 s2 re3=>⟨Hs2,ρ2,s1.trans s2,re3,e3⟩
      |brk ρ2=>cases e3;exact λσ' Hs2 H2 s2 re3=>q σ' Hs2 H2 (s1.trans s2) re3
      |ret s=>cases e3;exact λv Hs2 H2 s2=>q v Hs2 H2 (s1.trans s2)
      |exc x=>cases e3;exact λHs2 H2 s2=>q Hs2 H2 (s1.trans s2)
theorem sY{body:List Stmt}(fuel:MEnv->Nat)(hp:PassesOwn (model X.prog X.w) X.A X.env X.xe)(hc:B4 X Γ W c gc)(hb:l0 X Γ W body g):sJ X Γ W (.While c body [] pos) (qg fuel gc g):=
 PS.imp (DF hp hc hb) λpins s σ H D I ⟨B0,B1,Hs,ρ,o,re,e,q⟩=>yf q (fuel ρ) re e
theorem B8{Hs0:Hp}{a:Addr}{xs:List V}{ds:List D}{K:Frag}(h:kY K Hs0 a xs)(r:RepL Γ Hs0 ds xs):Fg Γ Hs0 (Lg K a) ds where
 go:=λi Hs H hi s1 s2=>⟨xs,xs[i]'(by rw[←r.length];exact hi),Same.seq (s1.trans s2) h,by rw[getElem?_eq_getElem]⟩
 stop:=λHs H s1 s2=>⟨xs,Same.seq (s1.trans s2) h,le_of_eq r.length.symm⟩
 yld:=λi Hs H x H' hi s1 s2 ⟨e,y⟩=>by
  subst e;obtain⟨z,e1,q⟩:=r.get (getElem?_eq_getElem hi);have e2:=y xs (Same.seq (s1.trans s2) h);rw[e1] at e2;cases e2;exact⟨_,Hs,getElem?_eq_getElem hi,.refl s2,q.mono s1⟩
theorem Df{Hs0:Hp}{a:Addr}{xs:List V}{ds:List D}{K:Frag}(h:nh K Hs0 a xs)(r:RepL Γ Hs0 ds xs):Fg Γ Hs0 (Lf K a) ds where
 go:=λi Hs H hi s1 s2=>⟨xs,xs[i]'(by rw[←r.length];exact hi),cu (s1.trans s2) h,by rw[getElem?_eq_getElem]⟩
 stop:=λHs H s1 s2=>⟨xs,cu (s1.trans s2) h,le_of_eq r.length.symm⟩
 yld:=λi Hs H x H' hi s1 s2 ⟨e,y⟩=>by
  subst e;obtain⟨z,e1,q⟩:=r.get (getElem?_eq_getElem hi);have e2:=y xs (cu (s1.trans s2) h);rw[e1] at e2;cases e2;exact⟨_,Hs,getElem?_eq_getElem hi,.refl s2,q.mono s1⟩
theorem vS{Hs0:Hp}(lo hi:Int):Fg Γ Hs0 (Kl lo (hi - lo).toNat) (rng lo hi) where
 go:=λi Hs H h s1 s2=>by
  unfold rng at h;rw[length_map,length_range] at h;exact h
 stop:=λHs H s1 s2=>by
  unfold rng;rw[length_map,length_range];exact le_refl _
 yld:=λi Hs H x H' h s1 s2 ⟨e,y⟩=>by
  subst e y;unfold rng at h ⊢;rw[length_map,length_range] at h;exact⟨.int (lo+i),Hs,by rw[getElem?_map,getElem?_range h];rfl,.refl s2,ai.mpr rfl⟩
end
theorem mG(js:List Nat):∀ρ:MEnv,(bI js ρ).length=ρ.length:=by
 induction js with
 |nil=>intro ρ;rfl
 |cons j js ih=>intro ρ;show(bI js (ρ.set j none)).length=_;rw[ih,length_set]
theorem eO(js:List Nat):∀(ρ:MEnv)(i:Nat)(v:S),(bI js ρ)[i]?=some (some v)->i∉js/\ρ[i]?=some (some v):=by
 induction js with
 |nil=>intro ρ i v h;exact⟨by simp,h⟩
 |cons j js ih=>
  intro ρ i v h;obtain⟨h1,h2⟩:=ih (ρ.set j none) i v h;by_cases hj:j=i
  ·subst hj;by_cases hl:j<ρ.length
   ·rw[getElem?_set_self hl] at h2;cases h2
   ·rw[getElem?_eq_none (by rw[length_set];omega)] at h2;cases h2
  ·rw[getElem?_set_ne hj] at h2;exact⟨by simp[h1,Ne.symm hj],h2⟩
theorem lK(js:List Nat):∀(σ:L2.St)(i:Nat),i∉js->(fB js σ)[i]?=σ[i]?:=by
 induction js with
 |nil=>intro σ i _;rfl
 |cons j js ih=>
  intro σ i h;have h':i≠j/\i∉js:=by simpa using h
  show(fB js (σ.set j none))[i]?=_;rw[ih _ _ h'.2,getElem?_set_ne (Ne.symm h'.1)]
section
variable{Γ:Ct}{B0 B1 Hs H:Hp}{σ σ':L2.St}{ρ ρ':MEnv}
theorem RE.sub(r:RE Γ B0 B1 Hs H σ ρ)(hl:ρ'.length=σ'.length)(h:∀(i:Nat)(s:S),ρ'[i]?=some (some s)->ρ[i]?=some (some s)/\σ'[i]?=σ[i]?):RE Γ B0 B1 Hs H σ' ρ' where
 tb:=r.tb
 b:=r.b
 sh:=λi d e=>by
  obtain⟨e1,e2⟩:=h i _ e;obtain⟨v,e3,q⟩:=r.sh i d e1;exact⟨v,e2.trans e3,q⟩
 own:=λi o e=>by
  obtain⟨e1,e2⟩:=h i _ e;obtain⟨a,ho,e3,f1,f2,f3,q⟩:=r.own i o e1;exact⟨a,ho,e2.trans e3,f1,f2,f3,q⟩
 apart:=λi j o u a hij hi hj ha=>by
  obtain⟨e1,e2⟩:=h i _ hi;obtain⟨e3,e4⟩:=h j _ hj;rw[e4];exact r.apart i j o u a hij e1 e3 (e2.symm.trans ha)
 len:=hl
theorem RE.other(r:RE Γ B0 B1 Hs H σ ρ){a:Addr}{ho:HO}(h1:Hs a=none)(h2:B1 a=none)(h3:∀(i:Nat)(o:O),ρ[i]?=some (some (.own o))->σ[i]?≠some (some (.ref a))):RE Γ B0 B1 Hs (c8 H a ho) σ ρ where
 tb:=r.tb
 b:=⟨r.b.s,λb u z=>by rw[av (aG z h2)];exact r.b.h _ _ z,λb u z=>by rw[av (aG z h1)];exact r.b.i _ _ z,r.b.n⟩
 sh:=r.sh
 own:=λi o e=>by
  obtain⟨c,hc,f1,f2,f3,f4,f5⟩:=r.own i o e;refine⟨c,hc,f1,f2,f3,?_,f5⟩;rw[av]
  ·exact f4
  ·intro z;subst z;exact h3 i o e f1
 apart:=r.apart
 len:=r.len
end
theorem Grow.other{Hs H Hs' H':Hp}{a:Addr}{ho:HO}(g:Grow Hs H Hs' H')(h0:H a=none)(h1:Hs' a=none):Grow Hs H Hs' (c8 H' a ho):=
 ⟨g.s,λb u z=>by rw[av (aG z h0)];exact g.h _ _ z,λb u z=>by rw[av (aG z h1)];exact g.i _ _ z,g.n⟩
theorem Grow.none{Hs H Hs' H':Hp}{a:Addr}{ho:HO}(g:Grow Hs H Hs' H')(h:Hs a=Option.none)(h':H a=some ho):Hs' a=Option.none:=by
 cases z:Hs' a with
 |none=>rfl
 |some u=>
  rcases g.n a u z with w|w
  ·rw[h] at w;cases w
  ·rw[h'] at w;cases w
def yb(js:List Nat)(bd:MB):Prop:=∀d ρ ρ',bd d ρ=some ρ'->ρ'.length=ρ.length/\∀i:Nat,i∉js->ρ'[i]?=ρ[i]?
theorem dz(j:Nat):yb [j] (aW j):=λd ρ ρ' e=>by
 cases e;exact⟨by rw[length_set],λi hi=>getElem?_set_ne λz=>hi (by simp[z])⟩
section
variable{Γ:Ct}{W:XW}{js:List Nat}{gi:MI}{bd:MB}{cond elt:ME}
theorem uh{tt:TT}(ht:∀σ H Q,tT Γ W cond σ H Q->tt σ H Q)(hb:yb js bd){σ:L2.St}{H:Hp}{Q:VK}(t:tD Γ W (cR js gi bd cond elt) σ H Q):
  vX js (tI Γ W gi) (Jw Γ js bd) tt (tD Γ W elt) σ H Q:=by
 obtain⟨B0,B1,Hs,ρ,r,re,e,q⟩:=t;unfold cR at e;cases h:gi ρ with
 |none=>rw[h] at e;cases e
 |some x=>
  rw[h] at e;refine⟨B0,B1,Hs,ρ,x,re,h,?_⟩;cases x with
  |exc y=>cases e;exact q
  |ok ds=>
   intro J Hs1 H1 g1 w a ha;dsimp only at e;have hlim:ds.length<=lim:=by
    by_cases z:ds.length<=lim
    ·exact z
    ·rw[if_neg z] at e;cases e
   rw[if_pos hlim] at e;have hs1:Hs1 a=none:=g1.i.free ha;have h0:H a=none:=g1.h.free ha;have hb1:B1 a=none:=re.b.h.free h0;have re1:RE Γ B0 B1 Hs1 H1 (fB js σ) (bI js ρ):=(re.grow g1).sub (by rw[mG,gm,re.len]) λi s z=>by
    obtain⟨z1,z2⟩:=eO js ρ i s z;exact⟨z2,lK js σ i z1⟩
   have ap1:∀(i:Nat)(o:O),(bI js ρ)[i]?=some (some (.own o))->(fB js σ)[i]?≠some (some (.ref a)):=λi o z z'=>by
    obtain⟨c,hc,f1,_,_,f4,_⟩:=re1.own i o z;rw[z'] at f1;cases f1;rw[ha] at f4;cases f4
   refine⟨λi m σ2 ys H2=>m=ds.length - i/\i<=ds.length/\∃Hs2 acc,Same Hs1 Hs2/\Grow Hs H Hs2 H2/\RE Γ B0 B1 Hs2 H2 σ2 (bI js ρ)/\Hs2 a=none/\
    (∀(i:Nat)(o:O),(bI js ρ)[i]?=some (some (.own o))->σ2[i]?≠some (some (.ref a)))/\H2 a=some (.lst ys)/\RepL Γ Hs2 acc ys/\ko bd cond elt (bI js ρ) (ds.drop i) acc=some r/\acc.length<=i,⟨_,rfl,zero_le _,Hs1,[],.refl _,g1.other h0 hs1,re1.other hs1 hb1 ap1,hs1,ap1,aB,.nil,e,zero_le _⟩,?_⟩
   rintro i m σ2 ys H2 ⟨rfl,hi,Hs2,acc,sm,g2,re2,ha2,ap,hy,rl,ec,hacc⟩
   refine⟨hy,?_⟩;by_cases hlt:i<ds.length
   ·refine .inr ⟨w.go i Hs2 H2 hlt sm re2.b.i,λx H3 y=>?_⟩;obtain⟨d,Hs3,ed,g3,rp⟩:=w.yld i Hs2 H2 x H3 hlt sm re2.b.i y;have hd:ds.drop i=d::ds.drop (i+1):=by
     rw[List.drop_eq_getElem_cons hlt];congr 1;rw[getElem?_eq_getElem hlt] at ed;exact Option.some.inj ed
    rw[hd] at ec;unfold ko at ec;cases hbd:bd d (bI js ρ) with
    |none=>rw[hbd] at ec;cases ec
    |some ρ1=>
     rw[hbd] at ec;dsimp only at ec;obtain⟨bl,bo⟩:=hb d _ ρ1 hbd;refine⟨B0,B1,Hs3,bI js ρ,d,ρ1,re2.grow g3,rp,hbd,λσ4 re4 hσ=>?_⟩;have low:∀{Hs5 H5:Hp},RE Γ B0 B1 Hs5 H5 σ4 ρ1->RE Γ B0 B1 Hs5 H5 σ4 (bI js ρ):=λr5=>r5.sub (by rw[←bl,r5.len]) λk s z=>by
      obtain⟨z1,_⟩:=eO js ρ k s z;exact⟨(bo k z1).trans z,rfl⟩
     have ap4:∀(k:Nat)(o:O),(bI js ρ)[k]?=some (some (.own o))->σ4[k]?≠some (some (.ref a)):=λk o z=>by
      obtain⟨z1,_⟩:=eO js ρ k _ z;rw[hσ k z1];exact ap k o z
     have ha3:=g3.none ha2 hy;have hy3:=g3.h _ _ hy;refine ht _ _ _ ?_;cases hcv:cond ρ1 with
     |none=>rw[hcv] at ec;cases ec
     |some c=>
      rw[hcv] at ec;refine⟨B0,B1,Hs3,ρ1,c,re4,hcv,?_⟩;cases c with
      |exc x=>
       cases ec;exact λHs' H' g'=>q Hs' H' ((g2.trans g3).trans g')
      |ok s=>
       obtain⟨b,eb,ec2⟩:=jk (show asB s.val _=some r from ec);refine⟨b,eb,λHs5 H5 g5=>?_⟩;have ha5:=g5.none ha3 hy3;have hy5:=g5.h _ _ hy3;have re5:=re4.grow g5;cases b with
       |false=>
        rw[if_neg Bool.false_ne_true] at ec2;refine L0 ?_;exact⟨_,by omega,rfl,hlt,Hs5,acc,(sm.trans g3.s).trans g5.s,(g2.trans g3).trans g5,low re5,ha5,ap4,hy5,rl.mono (g3.s.trans g5.s),ec2,by omega⟩
       |true=>
        rw[if_pos rfl] at ec2;refine K7 ?_;refine(bV (k:=λx=>ko bd cond elt (bI js ρ) (ds.drop (i+1)) (acc++[x])) re5 ec2 ((q.grow (g2.trans g3)).grow g5)).mono λv H6 ⟨Hs6,z,g6,re6,rp6,ec6,q6⟩=>?_;have ha6:=g6.none ha5 hy5;have hy6:=g6.h _ _ hy5;have hlen:acc.length=ys.length:=rl.length;have hbig:ys.length<sizeLine:=lt_of_lt_of_le (by omega:ys.length<lim) (by decide)
        refine⟨hy6,hbig,_,by omega,rfl,hlt,Hs6,acc++[z],((sm.trans g3.s).trans g5.s).trans g6.s,(((g2.trans g3).trans g5).trans g6).other h0 ha6,(low re6).other ha6 hb1 ap4,ha6,ap4,aB,(rl.mono ((g3.s.trans g5.s).trans g6.s)).append (.cons rp6 .nil),ec6,by rw[length_append,length_singleton];omega⟩
   ·have ei:i=ds.length:=by omega
    subst ei;rw[List.drop_length] at ec;unfold ko at ec;split at ec
    ·cases ec;exact .inl ⟨w.stop Hs2 H2 sm re2.b.i,q _ Hs2 H2 g2 ⟨a,_,rfl,h0,ha2,hy,ys,rfl,rl⟩⟩
    ·cases ec
end
section
variable{X:Cx}{Γ:Ct}{W:XW}{scope:Scope}{vars:List Str}{js:List Nat}{elt tg iter c:Expr}{pos:Pos}{gi:MI}{bd:MB}{cond ge:ME}
theorem Ag{σ:L2.St}{H:Hp}{Q:Bool->Hp->Prop}(t:tT Γ W fo σ H Q):vW σ H Q:=by
 obtain⟨B0,B1,Hs,ρ,r,re,e,q⟩:=t;cases e;obtain⟨b,eb,q⟩:=q;cases eb;exact q Hs H (.refl re.b.i)
theorem mh(hb:yb js bd)(hc:dh scope X.env.scope vars=true)(hj:jn X.N vars js=true)(hcalm:X.calm=true)(hi:GG X Γ W tg iter gi)
  (hg:∀fp s H a,Hi (cZ X scope fp s H a) Γ tg js bd) (he:∀fp s H a,PD (cZ X scope fp s H a) Γ W elt ge) (hs:∀x,foldedSetIterable iter X.env x=pure x:=by intro _;rfl):
  PD X Γ W (.ListComp elt [⟨tg,iter,[],0⟩] scope pos) (cR js gi bd fo ge):=
 PE.imp (FR hc hj hcalm hi hg (λ_ _ _ _=>uC) he hs) λ_ _ _ _ _ _ t=>uh (λ_ _ _ z=>Ag z) hb t
variable{i:Nat}{x:Str}{pos' spos:Pos}
theorem oY{st:Stmt}{t:TE}{ge:ME}(h:PS X st (Do t (tJ i)))(ht:∀σ H Q,tD Γ W ge σ H Q->t σ H Q)(hi:i<X.N.length):sJ X Γ W st (aL i ge):=PS.imp h λpins s σ H D I ⟨B0,B1,Hs,ρ,o,re,e,q⟩=>by
 refine ht _ _ _ ((Be re e q).mono λv H1 ⟨Hs1,s,g1,rs,e1⟩=>?_);cases e1;exact q _ Hs1 H1 g1.s (re.setS g1 (by rw[I.len];exact hi) rs)
theorem wx(hN:X.N.Nodup)(hi':X.N[i]?=some x)(hx:yd X.env.scope x)(hb:yb js bd)(hc:dh scope X.env.scope vars=true)(hj:jn X.N vars js=true)(hcalm:X.calm=true)(hi:GG X Γ W tg iter gi)
  (hg:∀fp s H a,Hi (cZ X scope fp s H a) Γ tg js bd) (he:∀fp s H a,PD (cZ X scope fp s H a) Γ W elt ge)
  (hsw:swapsWith (.ListComp elt [⟨tg,iter,[],0⟩] scope pos) (some (.Name x pos')) spos.line X.env=pure true:=by rfl) (hs:∀x,foldedSetIterable iter X.env x=pure x:=by intro _;rfl)
  (hf:X.fn x=true\/X.env.scope.names.lookup x=some .local:=by first|exact .inl rfl|exact .inr rfl|assumption):
  sJ X Γ W (.Assign [.Name x pos'] (.ListComp elt [⟨tg,iter,[],0⟩] scope pos) spos) (aL i (cR js gi bd fo ge)):=
 oY (mN hN hi' hx hc hj hcalm hi hg (λ_ _ _ _=>uC) he hsw hs hf) (λ_ _ _ t=>uh (λ_ _ _ z=>Ag z) hb t) (List.getElem?_eq_some_iff.mp hi').1
theorem ql(hN:X.N.Nodup)(hi':X.N[i]?=some x)(hx:yd X.env.scope x)(hb:yb js bd)(hc:dh scope X.env.scope vars=true)(hj:jn X.N vars js=true)(hcalm:X.calm=true)(hi:GG X Γ W tg iter gi)
  (hg:∀fp s H a,Hi (cZ X scope fp s H a) Γ tg js bd) (ht:∀fp s H a,B4 (cZ X scope fp s H a) Γ W c cond) (he:∀fp s H a,PD (cZ X scope fp s H a) Γ W elt ge)
  (hsw:swapsWith (.ListComp elt [⟨tg,iter,[c],0⟩] scope pos) (some (.Name x pos')) spos.line X.env=pure true:=by rfl) (hs:∀x,foldedSetIterable iter X.env x=pure x:=by intro _;rfl)
  (hf:X.fn x=true\/X.env.scope.names.lookup x=some .local:=by first|exact .inl rfl|exact .inr rfl|assumption):
  sJ X Γ W (.Assign [.Name x pos'] (.ListComp elt [⟨tg,iter,[c],0⟩] scope pos) spos) (aL i (cR js gi bd cond ge)):=
 oY (mN hN hi' hx hc hj hcalm hi hg (λfp s H a=>FM (ht fp s H a)) he hsw hs hf) (λ_ _ _ t=>uh (λ_ _ _ z=>z) hb t) (List.getElem?_eq_some_iff.mp hi').1
theorem fz{l:Expr}{g:ME}(hK:X.K=Γ.K)(h:PD X Γ W l g):GG X Γ W tg l (jf g):=PI.imp (HI h) λ_ _ σ H Q _ ⟨B0,B1,Hs,ρ,r,re,e,q⟩=>by
 unfold jf at e;cases hg:g ρ with
 |none=>rw[hg] at e;cases e
 |some y=>
  rw[hg] at e;cases y with
  |exc z=>
   cases e;exact⟨B0,B1,Hs,ρ,_,re,hg,q⟩
  |ok s=>
   refine⟨B0,B1,Hs,ρ,.ok s,re,hg,λv Hs' H' g' rs=>?_⟩;obtain⟨Hs2,g2,_,rp⟩:=rs.share g';dsimp only at e;cases hv:s.val with
   |lst ds=>
    rw[hv] at e rp;cases e;obtain⟨a,xs,rfl,rd,rl⟩:=bH.mp rp;rw[←hK] at rd;exact⟨a,rfl,.inl ⟨⟨xs,Same.seq g2.i rd⟩,q _ Hs2 H' g2 (B8 rd rl)⟩⟩
   |tup ds=>
    rw[hv] at e rp;cases e;obtain⟨a,xs,rfl,sq,rl⟩:=bF.mp rp;rw[←hK] at sq;exact⟨a,rfl,.inr ⟨⟨xs,cu g2.i sq⟩,q _ Hs2 H' g2 (Df sq rl)⟩⟩
   |non=>rw[hv] at e;cases e
   |bl _=>rw[hv] at e;cases e
   |int _=>rw[hv] at e;cases e
   |str _=>rw[hv] at e;cases e
   |fn _ _=>rw[hv] at e;cases e
   |obj _ _ _=>rw[hv] at e;cases e
theorem Fq{B0 B1 Hs H:Hp}{σ:L2.St}{ρ:MEnv}{g:ME}{k:D->Option RI}{r:RI}{Q:It->Hp->Prop}(re:RE Γ B0 B1 Hs H σ ρ)(e:vx g ρ k=some r)(q:IQ Γ W Hs H r Q):
  tD Γ W g σ H (λv H1=>∃Hs1 d,Grow Hs H Hs1 H1/\RE Γ B0 B1 Hs1 H1 σ ρ/\Rep Γ Hs1 d v/\k d=some r/\IQ Γ W Hs1 H1 r Q):=by
 unfold vx at e;cases h:g ρ with
 |none=>rw[h] at e;cases e
 |some x=>
  rw[h] at e;refine⟨B0,B1,Hs,ρ,x,re,h,?_⟩;cases x with
  |exc y=>cases e;exact q
  |ok s=>
   intro v Hs' H' g' rs;obtain⟨Hs'',g2,_,rp⟩:=rs.share g';refine⟨Hs'',s.val,g2,re.grow g2,rp,e,?_⟩;cases r with
   |ok ds=>exact λJ Hs3 H3 g3 w=>q J Hs3 H3 (g2.trans g3) w
   |exc y=>exact λHs3 H3 g3=>q Hs3 H3 (g2.trans g3)
theorem g9{i:Int}(h:gf i=true):-(2 ^ 62)<=i/\i<2 ^ 62:=by
 unfold gf at h;simpa using h
theorem fD{a:Expr}{g:ME}{p p':Pos}(hg:Gl X "range")(hm:X.mg "range" = none)(h:PD X Γ W a g)(hst:starEach (a::[]) X.env=(false,eval a X.env)::starEach [] X.env:=by rfl)(hs:starEach [a] X.env=[(false,eval a X.env)]:=by rfl):
  GG X Γ W tg (.Call (.Name "range" p) [a] [] p') (dg g):=PI.imp (BI hg hm (br h dY hst) hs) λ_ _ σ H Q _ ⟨B0,B1,Hs,ρ,r,re,e,q⟩=>by
 refine(Fq re e q).mono λv H1 ⟨Hs1,d,g1,re1,rp,e1,q1⟩=>?_;cases d with
 |int hi=>
  dsimp only at e1;split at e1
  ·rename_i hr;cases e1;obtain⟨h1,h2⟩:=g9 hr;refine⟨hi,by rw[ai.mp rp],h1,h2,q1 _ Hs1 H1 (.refl re1.b.i) ?_⟩
   have w:=vS (Γ:=Γ) (Hs0:=Hs1) 0 hi;rw[Int.sub_zero] at w;exact w
  ·cases e1
 |_=>cases e1
theorem yP{a b:Expr}{ga gb:ME}{p p':Pos}(hg:Gl X "range")(hm:X.mg "range" = none)(ha:PD X Γ W a ga)(hb:PD X Γ W b gb)(hst:starEach [a,b] X.env=(false,eval a X.env)::starEach [b] X.env:=by rfl)(hst2:starEach [b] X.env=(false,eval b X.env)::starEach [] X.env:=by rfl)
  (hs:starEach [a,b] X.env=[(false,eval a X.env),(false,eval b X.env)]:=by rfl) (hs2:starEach [b] X.env=[(false,eval b X.env)]:=by rfl):
  GG X Γ W tg (.Call (.Name "range" p) [a,b] [] p') (mj ga gb):=PI.imp (BH hg hm (br ha (br hb dY hst2) hst) hs hs2) λ_ _ σ H Q _ ⟨B0,B1,Hs,ρ,r,re,e,q⟩=>by
 refine(Fq re e q).mono λv H1 ⟨Hs1,d,g1,re1,rp,e1,q1⟩=>?_;refine(Fq re1 e1 q1).mono λu H2 ⟨Hs2,d2,g2,re2,rp2,e2,q2⟩=>?_;cases d with
 |int lo=>
  cases d2 with
  |int hi=>
   dsimp only at e2;split at e2
   ·rename_i hr;cases e2;obtain⟨h1,h2⟩:=g9 hr.1;obtain⟨h3,h4⟩:=g9 hr.2;exact⟨lo,hi,by rw[ai.mp rp,ai.mp rp2],⟨h1,h2,h3,h4⟩,q2 _ Hs2 H2 (.refl re2.b.i) (vS lo hi)⟩
   ·cases e2
  |non=>cases e2
  |bl _=>cases e2
  |str _=>cases e2
  |tup _=>cases e2
  |lst _=>cases e2
  |fn _ _=>cases e2
  |obj _ _ _=>cases e2
 |_=>cases e2
end
section
variable{X:Cx}{Γ:Ct}{W:XW}
theorem gq{Hs H:Hp}{Q:VK}{d:D}(sm:Same Hs H)(q:RQ Γ W Hs H (.ok (.sh d)) Q){v:V}(rp:Rep Γ Hs d v):Q v H:=q v Hs H (.refl sm) rp
theorem uy{Hs H:Hp}{Q:VK}{ds:List D}{xs:List V}(sm:Same Hs H)(q:RQ Γ W Hs H (.ok (.sh (.tup ds))) Q)(rl:RepL Γ Hs ds xs){p:Addr}(hp:H p=none):Q (.ref p) (c8 H p (.tup xs)):=
 q _ (c8 Hs p (.tup xs)) _ (.new sm hp) (ic.of (bF.mpr ⟨p,xs,rfl,.of aB,rl.mono (aX (sm.free hp))⟩))
theorem nJ{Hs H:Hp}{Q:VK}{ds:List D}{xs:List V}(sm:Same Hs H)(q:RQ Γ W Hs H (.ok (.own (.lst ds))) Q)(rl:RepL Γ Hs ds xs){p:Addr}(hp:H p=none):Q (.ref p) (c8 H p (.lst xs)):=
 q _ Hs _ (.newOwn sm hp) ⟨p,_,rfl,hp,sm.free hp,aB,xs,rfl,rl⟩
theorem jN{n:Nat}(h:n<=lim):n<=sizeLine:=le_trans h (by decide)
theorem b0{α:Type}{c:Prop}[Decidable c]{a r:α}(h:(if c then some a else none)=some r):c/\a=r:=by
 by_cases z:c
 ·rw[if_pos z] at h;exact⟨z,Option.some.inj h⟩
 ·rw[if_neg z] at h;cases h
theorem az(hK:X.K=Γ.K):iU X (binaryOp .Add) (rD Γ W aK):=λpins s σ H x y v u Q I rx ry ⟨Hs,d1,d2,r,sm,r1,r2,e,q⟩=>by
 cases d1 with
 |int i=>
  cases d2 with
  |int j=>cases e;exact Ii pins s σ H x y v u Q I rx ry ⟨i,j,ai.mp r1,ai.mp r2,gq sm q (ai.mpr rfl)⟩
  |non=>cases e
  |bl _=>cases e
  |str _=>cases e
  |tup _=>cases e
  |lst _=>cases e
  |fn _ _=>cases e
  |obj _ _ _=>cases e
 |str i=>
  cases d2 with
  |str j=>
   obtain⟨hl,rfl⟩:=b0 (c:=i.length+j.length<=lim) e;exact yT pins s σ H x y v u Q I rx ry ⟨i,j,bW.mp r1,bW.mp r2,jN hl,gq sm q (bW.mpr rfl)⟩
  |non=>cases e
  |bl _=>cases e
  |int _=>cases e
  |tup _=>cases e
  |lst _=>cases e
  |fn _ _=>cases e
  |obj _ _ _=>cases e
 |tup ds=>
  cases d2 with
  |tup es=>
   obtain⟨hl,rfl⟩:=b0 (c:=ds.length+es.length<=lim) e;obtain⟨a,xs,rfl,qa,la⟩:=bF.mp r1;obtain⟨b,ys,rfl,qb,lb⟩:=bF.mp r2;have qa':nh X.K H a xs:=by rw[hK];exact cu sm qa
   have qb':nh X.K H b ys:=by rw[hK];exact cu sm qb
   by_cases h0:xs=[]
   ·subst h0;have e0:ds=[]:=List.length_eq_zero_iff.mp la.length;subst e0;exact DW pins s σ H _ _ v u Q I rx ry ⟨a,b,ys,rfl,rfl,qa',qb',gq sm q (bF.mpr ⟨b,ys,rfl,qb,lb⟩)⟩
   ·refine G1 pins s σ H _ _ v u Q I rx ry ⟨a,b,xs,ys,rfl,rfl,qa',qb',h0,by rw[←la.length,←lb.length];exact jN hl,λz=>?_,λz p hp=>uy sm q (la.append lb) hp⟩
    subst z;have e0:es=[]:=List.length_eq_zero_iff.mp lb.length;subst e0;rw[append_nil] at q;exact gq sm q (bF.mpr ⟨a,xs,rfl,qa,la⟩)
  |non=>cases e
  |bl _=>cases e
  |int _=>cases e
  |str _=>cases e
  |lst _=>cases e
  |fn _ _=>cases e
  |obj _ _ _=>cases e
 |lst ds=>
  cases d2 with
  |lst es=>
   obtain⟨hl,rfl⟩:=b0 (c:=ds.length+es.length<=lim) e;obtain⟨a,xs,rfl,qa,la⟩:=bH.mp r1;obtain⟨b,ys,rfl,qb,lb⟩:=bH.mp r2;exact G2 pins s σ H _ _ v u Q I rx ry ⟨a,b,xs,ys,rfl,rfl,by rw[hK];exact Same.seq sm qa,by rw[hK];exact Same.seq sm qb,by rw[←la.length,←lb.length];exact jN hl,λp hp=>nJ sm q (la.append lb) hp⟩
  |non=>cases e
  |bl _=>cases e
  |int _=>cases e
  |str _=>cases e
  |tup _=>cases e
  |fn _ _=>cases e
  |obj _ _ _=>cases e
 |_=>cases e
theorem eN{f:Int->Int->Option R}{g:D->D->Option R}(hg:∀d1 d2,g d1 d2=match d1,d2 with|.int i,.int j=>f i j|_,_=>none){d1 d2:D}{r:R}(e:g d1 d2=some r):∃i j,d1=.int i/\d2=.int j/\f i j=some r:=by
 rw[hg] at e;cases d1 with
 |int i=>
  cases d2 with
  |int j=>exact⟨i,j,rfl,rfl,e⟩
  |non=>cases e
  |bl _=>cases e
  |str _=>cases e
  |tup _=>cases e
  |lst _=>cases e
  |fn _ _=>cases e
  |obj _ _ _=>cases e
 |_=>cases e
theorem iK:iU X (binaryOp .Sub) (rD Γ W kZ):=λpins s σ H x y v u Q I rx ry ⟨Hs,d1,d2,r,sm,r1,r2,e,q⟩=>by
 obtain⟨i,j,rfl,rfl,e⟩:=eN (f:=λi j=>okI (i - j)) (λ_ _=>rfl) e;cases e;exact I8 pins s σ H x y v u Q I rx ry ⟨i,j,ai.mp r1,ai.mp r2,gq sm q (ai.mpr rfl)⟩
theorem sR{i:Int}(h:jJ i=true):-(2 ^ 64)<i/\i<2 ^ 64:=by
 unfold jJ at h;simpa using h
theorem iM:iU X (binaryOp .Mod) (rD Γ W km):=λpins s σ H x y v u Q I rx ry ⟨Hs,d1,d2,r,sm,r1,r2,e,q⟩=>by
 obtain⟨i,j,rfl,rfl,e⟩:=eN (f:=λi j=>if 0<j then okI (i % j) else none) (λ_ _=>rfl) e;obtain⟨h,rfl⟩:=b0 e;exact Ig pins s σ H x y v u Q I rx ry ⟨i,j,ai.mp r1,ai.mp r2,h,gq sm q (ai.mpr rfl)⟩
theorem qE:iU X (binaryOp .FloorDiv) (rD Γ W p8):=λpins s σ H x y v u Q I rx ry ⟨Hs,d1,d2,r,sm,r1,r2,e,q⟩=>by
 obtain⟨i,j,rfl,rfl,e⟩:=eN (f:=λi j=>if 0<j/\j<1073741824 then okI (i / j) else none) (λ_ _=>rfl) e;obtain⟨h,rfl⟩:=b0 e;exact G0 pins s σ H x y v u Q I rx ry ⟨i,j,ai.mp r1,ai.mp r2,h,gq sm q (ai.mpr rfl)⟩
theorem qD:iU X (compareOp .Lt) (rD Γ W Fk):=λpins s σ H x y v u Q I rx ry ⟨Hs,d1,d2,r,sm,r1,r2,e,q⟩=>by
 obtain⟨i,j,rfl,rfl,e⟩:=eN (f:=λi j=>okB (decide (i<j))) (λ_ _=>rfl) e;cases e;exact JR pins s σ H x y v u Q I rx ry ⟨i,j,ai.mp r1,ai.mp r2,gq sm q (cT.mpr rfl)⟩
theorem lC:iU X (compareOp .Gt) (rD Γ W sE):=λpins s σ H x y v u Q I rx ry ⟨Hs,d1,d2,r,sm,r1,r2,e,q⟩=>by
 obtain⟨i,j,rfl,rfl,e⟩:=eN (f:=λi j=>okB (decide (j<i))) (λ_ _=>rfl) e;cases e;exact JS pins s σ H x y v u Q I rx ry ⟨i,j,ai.mp r1,ai.mp r2,gq sm q (cT.mpr rfl)⟩
theorem iL:iU X (binaryOp .Mult) (rD Γ W ip):=λpins s σ H x y v u Q I rx ry ⟨Hs,d1,d2,r,sm,r1,r2,e,q⟩=>by
 cases d1 with
 |int i=>
  cases d2 with
  |int j=>
   obtain⟨hl,rfl⟩:=b0 (c:=(jJ i || jJ j)=true) e;refine Ie pins s σ H x y v u Q I rx ry ⟨i,j,ai.mp r1,ai.mp r2,?_,gq sm q (ai.mpr rfl)⟩;rcases Bool.or_eq_true_iff.mp hl with h|h
   ·exact .inl (sR h)
   ·exact .inr (sR h)
  |non=>cases e
  |bl _=>cases e
  |str _=>cases e
  |tup _=>cases e
  |lst _=>cases e
  |fn _ _=>cases e
  |obj _ _ _=>cases e
 |_=>cases e
theorem xK{d1 d2:D}{b:Bool}{x y:V}{H:Hp}(e:IM d1 d2=some b)(r1:Rep Γ H d1 x)(r2:Rep Γ H d2 y):Hr x y=true/\decide (x=y)=b:=by
 cases d1 with
 |non=>
  rw[fu.mp r1];cases d2 with
  |non=>rw[fu.mp r2];cases e;exact⟨rfl,rfl⟩
  |bl _=>rw[cT.mp r2];cases e;exact⟨rfl,rfl⟩
  |int _=>rw[ai.mp r2];cases e;exact⟨rfl,rfl⟩
  |str _=>rw[bW.mp r2];cases e;exact⟨rfl,rfl⟩
  |tup _=>cases e
  |lst _=>cases e
  |fn _ _=>cases e
  |obj _ _ _=>cases e
 |bl c=>
  rw[cT.mp r1];cases d2 with
  |non=>rw[fu.mp r2];cases e;exact⟨rfl,rfl⟩
  |bl c'=>rw[cT.mp r2];cases e;exact⟨rfl,by rw[Bool.eq_iff_iff];simp⟩
  |int _=>cases e
  |str _=>rw[bW.mp r2];cases e;exact⟨rfl,rfl⟩
  |tup _=>cases e
  |lst _=>cases e
  |fn _ _=>cases e
  |obj _ _ _=>cases e
 |int c=>
  rw[ai.mp r1];cases d2 with
  |non=>rw[fu.mp r2];cases e;exact⟨rfl,rfl⟩
  |bl _=>cases e
  |int c'=>rw[ai.mp r2];cases e;exact⟨rfl,by rw[Bool.eq_iff_iff];simp⟩
  |str _=>rw[bW.mp r2];cases e;exact⟨rfl,rfl⟩
  |tup _=>cases e
  |lst _=>cases e
  |fn _ _=>cases e
  |obj _ _ _=>cases e
 |str c=>
  rw[bW.mp r1];cases d2 with
  |non=>rw[fu.mp r2];cases e;exact⟨rfl,rfl⟩
  |bl _=>rw[cT.mp r2];cases e;exact⟨rfl,rfl⟩
  |int _=>rw[ai.mp r2];cases e;exact⟨rfl,rfl⟩
  |str c'=>rw[bW.mp r2];cases e;exact⟨rfl,by rw[Bool.eq_iff_iff];simp⟩
  |tup _=>cases e
  |lst _=>cases e
  |fn _ _=>cases e
  |obj _ _ _=>cases e
 |_=>cases e
theorem bM:iU X (compareOp .Eq) (rD Γ W fM):=λpins s σ H x y v u Q I rx ry ⟨Hs,d1,d2,r,sm,r1,r2,e,q⟩=>by
 unfold fM at e;cases h:IM d1 d2 with
 |none=>rw[h] at e;cases e
 |some b=>
  rw[h] at e;cases e;obtain⟨h1,h2⟩:=xK h r1 r2;exact JT pins s σ H x y v u Q I rx ry ⟨h1,by rw[h2];exact gq sm q (cT.mpr rfl)⟩
theorem oz:iU X (compareOp .NotEq) (rD Γ W xQ):=λpins s σ H x y v u Q I rx ry ⟨Hs,d1,d2,r,sm,r1,r2,e,q⟩=>by
 unfold xQ at e;cases h:IM d1 d2 with
 |none=>rw[h] at e;cases e
 |some b=>
  rw[h] at e;cases e;obtain⟨h1,h2⟩:=xK h r1 r2;exact JQ pins s σ H x y v u Q I rx ry ⟨h1,by rw[h2];exact gq sm q (cT.mpr rfl)⟩
theorem HV{a b:Expr}{ga gb:ME}{pos:Pos}(ha:PD X Γ W a ga)(hb:PD X Γ W b gb):PD X Γ W (.BinOp a .Mult b pos) (EV ga gb):=PE.imp (DO Ib ha hb) λ_ _ σ H Q _ ⟨B0,B1,Hs,ρ,r,re,e,q⟩=>by
 unfold EV at e;cases h:ga ρ with
 |none=>rw[h] at e;cases e
 |some x=>
  rw[h] at e;refine⟨B0,B1,Hs,ρ,x,re,h,?_⟩;cases x with
  |exc y=>cases e;exact q
  |ok s=>
   cases s with
   |sh d=>cases e
   |two _ _ _=>cases e
   |own o=>
    cases o with
    |obj _ _ _=>cases e
    |dic _=>cases e
    |par _ _=>cases e
    |fdic _=>cases e
    |tab _=>cases e
    |dik _=>cases e
    |lst ds=>
     intro v Hs1 H1 g1 rs;obtain⟨p,ho,rfl,h0,h1,h2,xs,rfl,rl⟩:=rs;refine(bV (k:=Kf ds) (re.grow g1) e (q.grow g1)).mono λu H2 ⟨Hs2,d2,g2,re2,rp2,e2,q2⟩=>?_;cases d2 with
     |int k=>
      obtain⟨hl,rfl⟩:=b0 (c:=-(2 ^ 60)<=k/\k<2 ^ 60/\ds.length * k.toNat<=lim) e2;exact⟨p,k,xs,rfl,ai.mp rp2,g2.h _ _ h2,by omega,by omega,by rw[←rl.length];exact jN hl.2.2,λp hp=>nJ re2.b.i q2 ((rl.mono g2.s).rep _) hp⟩
     |non=>cases e2
     |bl _=>cases e2
     |str _=>cases e2
     |tup _=>cases e2
     |lst _=>cases e2
     |fn _ _=>cases e2
     |obj _ _ _=>cases e2
theorem wk{α:Type}{H:Hp}{f:α->D}{g:α->V}(l:List α)(h:∀k,Rep Γ H (f k) (g k)):RepL Γ H (l.map f) (l.map g):=by
 induction l with
 |nil=>exact .nil
 |cons a l ih=>exact .cons (h a) ih
theorem AZ{H:Hp}{ds:List D}{xs:List V}{i:Int}{d:D}(rl:RepL Γ H ds xs)(e:A6 ds i=some d):∃x,Jb xs i=some x/\Rep Γ H d x:=by
 unfold A6 at e;unfold Jb;have hl:=rl.length;have e0:K5 xs.length i=K6 ds.length i:=by rw[hl];rfl
 rw[e0];cases h:K6 ds.length i with
 |none=>rw[h] at e;cases e
 |some j=>
  rw[h] at e;exact rl.get e
theorem bu(hK:X.K=Γ.K):Fm X (rD Γ W dIx):=λvalue slice pins s σ H x y v u Q I rx ry ⟨Hs,d1,d2,r,sm,r1,r2,e,q⟩ hs=>by
 cases d2 with
 |int i=>
  have ey:=ai.mp r2;cases d1 with
  |tup ds=>
   have e:(A6 ds i).bind okD=some r:=e;cases h:A6 ds i with
   |none=>rw[h] at e;cases e
   |some d=>
    rw[h] at e;cases e;obtain⟨a,xs,rfl,qa,la⟩:=bF.mp r1;obtain⟨z,ez,rz⟩:=AZ la h;exact ix_tup value slice pins s σ H _ _ v u Q I rx ry ⟨a,xs,i,z,rfl,ey,by rw[hK];exact cu sm qa,ez,gq sm q rz⟩ hs
  |lst ds=>
   have e:(A6 ds i).bind okD=some r:=e;cases h:A6 ds i with
   |none=>rw[h] at e;cases e
   |some d=>
    rw[h] at e;cases e;obtain⟨a,xs,rfl,qa,la⟩:=bH.mp r1;obtain⟨z,ez,rz⟩:=AZ la h;exact Ge value slice pins s σ H _ _ v u Q I rx ry ⟨a,xs,i,z,rfl,ey,by rw[hK];exact Same.seq sm qa,ez,gq sm q rz⟩ hs
  |str z=>
   have e':(if z.length<=lim then(A6 z.cps.toList i).bind (λc=>okD (.str ⟨#[c]⟩)) else none)=some r:=e;by_cases hl:z.length<=lim
   ·rw[if_pos hl] at e';cases h:A6 z.cps.toList i with
    |none=>rw[h] at e';cases e'
    |some c=>
     rw[h] at e';cases e';exact IA value slice pins s σ H _ _ v u Q I rx ry ⟨z,i,c,bW.mp r1,ey,jN hl,h,gq sm q (bW.mpr rfl)⟩ hs
   ·rw[if_neg hl] at e';cases e'
  |non=>cases e
  |bl _=>cases e
  |int _=>cases e
  |fn _ _=>cases e
  |obj _ _ _=>cases e
 |_=>cases d1 <;> cases e
theorem pO{F:D->Option R}{ds:List D}{r:R}(h:f1 F ds=some r):∃d,ds=[d]/\F d=some r:=by
 match ds,h with
 |[d],h=>exact⟨d,rfl,h⟩
theorem Ao{H:Hp}{d:D}{xs:List V}(h:RepL Γ H [d] xs):∃x,xs=[x]/\Rep Γ H d x:=by
 obtain⟨x,r,e,q,t⟩:=aZ.mp h;rw[dI.mp t] at e;exact⟨x,e,q⟩
theorem cJ(hK:X.K=Γ.K):dD X (.builtin "len") (Dr Γ W (f1 cC)):=λpins s σ H xs us Q I rs ⟨Hs,ds,r,sm,rl,e,q,tb⟩=>by
 obtain⟨d,rfl,e⟩:=pO e;obtain⟨x,rfl,rp⟩:=Ao rl;cases d with
 |tup ds=>
  cases e;obtain⟨a,ys,rfl,qa,la⟩:=bF.mp rp;exact oe pins s σ H _ us Q I rs ⟨a,ys,rfl,.inr (by rw[hK];exact cu sm qa),by rw[←la.length];exact gq sm q (ai.mpr rfl)⟩
 |lst ds=>
  cases e;obtain⟨a,ys,rfl,qa,la⟩:=bH.mp rp;exact oe pins s σ H _ us Q I rs ⟨a,ys,rfl,.inl (by rw[hK];exact Same.seq sm qa),by rw[←la.length];exact gq sm q (ai.mpr rfl)⟩
 |str z=>
  obtain⟨hl,rfl⟩:=b0 (c:=z.length<=lim) e;rw[bW.mp rp] at rs;exact vI pins s σ H _ us Q I rs ⟨z,rfl,jN hl,gq sm q (ai.mpr rfl)⟩
 |_=>cases e
theorem IW(hK:X.K=Γ.K)(hc:X.calm=true):dD X (.builtin "sum") (Dr Γ W (f1 Gw)):=λpins s σ H xs us Q I rs ⟨Hs,ds,r,sm,rl,e,q,tb⟩=>by
 obtain⟨d,rfl,e⟩:=pO e;obtain⟨x,rfl,rp⟩:=Ao rl;cases d with
 |lst ds=>
  have e:(intsOf ds).bind (λns=>okI ns.sum)=some r:=e;cases h:intsOf ds with
  |none=>rw[h] at e;cases e
  |some ns=>
   rw[h] at e;cases e;obtain⟨a,ys,rfl,qa,la⟩:=bH.mp rp;have ey:=la.intsOf h;subst ey;exact CW hc pins s σ H _ us Q I rs ⟨a,ns,rfl,by rw[hK];exact Same.seq sm qa,gq sm q (ai.mpr rfl)⟩
 |_=>cases e
theorem eS(hK:X.K=Γ.K):dD X (.type "tuple") (Dr Γ W (f1 eR)):=λpins s σ H xs us Q I rs ⟨Hs,ds,r,sm,rl,e,q,tb⟩=>by
 obtain⟨d,rfl,e⟩:=pO e;obtain⟨x,rfl,rp⟩:=Ao rl;cases d with
 |tup ds=>
  cases e;obtain⟨a,ys,rfl,qa,la⟩:=bF.mp rp;exact mI pins s σ H _ us Q I rs ⟨a,ys,rfl,.inr ⟨by rw[hK];exact cu sm qa,gq sm q rp⟩⟩
 |lst ds=>
  cases e;obtain⟨a,ys,rfl,qa,la⟩:=bH.mp rp;exact mI pins s σ H _ us Q I rs ⟨a,ys,rfl,.inl ⟨by rw[hK];exact Same.seq sm qa,λp hp=>uy sm q la hp⟩⟩
 |_=>cases e
theorem AX(hK:X.K=Γ.K):dD X (.type "list") (Dr Γ W (f1 F0)):=λpins s σ H xs us Q I rs ⟨Hs,ds,r,sm,rl,e,q,tb⟩=>by
 obtain⟨d,rfl,e⟩:=pO e;obtain⟨x,rfl,rp⟩:=Ao rl;cases d with
 |tup ds=>
  cases e;obtain⟨a,ys,rfl,qa,la⟩:=bF.mp rp;exact o8 pins s σ H _ us Q I rs ⟨a,ys,rfl,.inr (by rw[hK];exact cu sm qa),λp hp=>nJ sm q la hp⟩
 |lst ds=>
  cases e;obtain⟨a,ys,rfl,qa,la⟩:=bH.mp rp;exact o8 pins s σ H _ us Q I rs ⟨a,ys,rfl,.inl (by rw[hK];exact Same.seq sm qa),λp hp=>nJ sm q la hp⟩
 |_=>cases e
def lU(K:Frag)(T:String):Prop:=∀t∈["NoneType","bool","int","str","tuple","list"],kitOne K (.type t) (.type T)=some (t == T || (t == "bool" && T == "int"))
theorem Hl{T:String}{g:ME}(hK:X.K=Γ.K)(h:lU X.K T){σ:L2.St}{H:Hp}{Q:VK}(t:tD Γ W (l5 (A0 T) g) σ H Q):
  tD Γ W g σ H λx H1=>∃y t U b,[x,V.ty T]=[y,V.ty U]/\(ng X.K H1 y (.type t)\/(t = "tuple" /\ ∃a xs,y=.ref a/\nh X.K H1 a xs)\/(t = "list" /\ ∃a xs,y=.ref a/\kY X.K H1 a xs))/\kitOne X.K (.type t) (.type U)=some b/\Q (.bl b) H1:=by
 obtain⟨B0,B1,Hs,ρ,r,re,e,q⟩:=t;refine(bV re e q).mono λv H1 ⟨Hs1,d,g1,re1,rp,e1,q1⟩=>?_;have fin:∀t:String,A0 T d=okB (t == T || (t == "bool" && T == "int"))->Q (.bl (t == T || (t == "bool" && T == "int"))) H1:=λt z=>by
  rw[z] at e1;cases e1;exact q1 _ Hs1 H1 (.refl re1.b.i) (ic.of (cT.mpr rfl))
 cases d with
 |non=>rw[fu.mp rp];exact⟨_,"NoneType",T,_,rfl,.inl .non,h _ (by simp),fin _ rfl⟩
 |bl _=>rw[cT.mp rp];exact⟨_,"bool",T,_,rfl,.inl (.bl _),h _ (by simp),fin _ rfl⟩
 |int _=>rw[ai.mp rp];exact⟨_,"int",T,_,rfl,.inl (.int _),h _ (by simp),fin _ rfl⟩
 |str _=>rw[bW.mp rp];exact⟨_,"str",T,_,rfl,.inl (.str _),h _ (by simp),fin _ rfl⟩
 |tup _=>obtain⟨a,xs,rfl,qa,_⟩:=bF.mp rp;exact⟨_,"tuple",T,_,rfl,.inr (.inl ⟨rfl,a,xs,rfl,by rw[hK];exact cu re1.b.i qa⟩),h _ (by simp),fin _ rfl⟩
 |lst _=>
  obtain⟨a,xs,rfl,qa,_⟩:=bH.mp rp;exact⟨_,"list",T,_,rfl,.inr (.inr ⟨rfl,a,xs,rfl,by rw[hK];exact Same.seq re1.b.i qa⟩),h _ (by simp),fin _ rfl⟩
 |fn _ _=>cases e1
 |obj _ _ _=>cases e1
theorem uH{a:Expr}{g:ME}{T:String}{tn:Str}{p p' pos:Pos}(hK:X.K=Γ.K)(hk:lU X.K T)(hg:Gl X "isinstance")(hm:X.mg "isinstance" = none)(hg2:Gl X tn)(hm2:X.mg tn=none)(hb:bootBuiltins tn=some (.type T))(h:PD X Γ W a g)
  (hn:tn ≠ "__name__" := by decide) (hdb:(tn == ("__debug__":Str))=false:=by decide) (hs1:starEach [a,.Name tn p'] X.env=(false,eval a X.env)::starEach [.Name tn p'] X.env:=by rfl) (hs2:starEach [.Name tn p'] X.env=(false,eval (.Name tn p') X.env)::starEach [] X.env:=by rfl)
  (hpl:(backTo pos (starEach [.Name tn p'] X.env)).any (·.1)=false:=by rfl):PD X Γ W (.Call (.Name "isinstance" p) [a,.Name tn p'] [] pos) (l5 (A0 T) g):=
 PE.imp (lu xZ hg hm boot_isinstance (br h (br (FT (v:=.ty T) hg2 hm2 hb rfl hn hdb) dY hs2) hs1) (by decide) (by decide) hs1 hpl) λ_ _ _ _ _ _ t=>Hl hK hk t
theorem uG{a b:Expr}{ga gb:ME}{p p' pos' pos:Pos}(hc:X.calm=true)(hg:Gl X "list")(hm:X.mg "list" = none)(hg2:Gl X "range")(hm2:X.mg "range" = none)(ha:PD X Γ W a ga)(hb:PD X Γ W b gb)
  (hs1:starEach [a,b] X.env=(false,eval a X.env)::starEach [b] X.env:=by rfl) (hs2:starEach [b] X.env=(false,eval b X.env)::starEach [] X.env:=by rfl) (hpl:(backTo pos' (starEach [b] X.env)).any (·.1)=false:=by rfl)
  (hs3:starEach [.Call (.Name "range" p') [a,b] [] pos'] X.env=(false,eval (.Call (.Name "range" p') [a,b] [] pos') X.env)::starEach [] X.env:=by rfl) (hpl2:(backTo pos (starEach [] X.env)).any (·.1)=false:=by rfl):
  PD X Γ W (.Call (.Name "list" p) [.Call (.Name "range" p') [a,b] [] pos'] [] pos) (a8 lO ga gb):=
 PE.imp (gA (o9 hc) hg hm boot_list (br (gA xY hg2 hm2 boot_range (br ha (br hb dY hs2) hs1) (by decide) (by decide) hs1 hpl) dY hs3) (by decide) (by decide) hs3 hpl2) λ_ _ σ H Q _ ⟨B0,B1,Hs,ρ,r,re,e,q⟩=>by
  refine(bV re e q).mono λv H1 ⟨Hs1,d,g1,re1,rp,e1,q1⟩=>?_;refine(bV re1 e1 q1).mono λu H2 ⟨Hs2,d2,g2,re2,rp2,e2,q2⟩=>?_;obtain⟨lo,hi,rfl,rfl,e2⟩:=eN (f:=λlo hi=>if gf lo=true/\gf hi=true/\(hi - lo).toNat<=lim then okL (rng lo hi) else none) (λ_ _=>rfl) e2;obtain⟨⟨h1,h2,h3⟩,rfl⟩:=b0 e2;refine⟨lo,hi,by rw[ai.mp rp,ai.mp rp2],λp hp=>?_⟩
  have sm:=re2.b.i;refine⟨p,lo,hi,rfl,aB,⟨(g9 h1).1,(g9 h1).2,(g9 h2).1,(g9 h2).2⟩,jN h3,λl hl=>?_⟩;have hp2:=sm.free hp;have g3:Grow Hs2 H2 Hs2 (c8 (c8 H2 p (.rng lo hi)) l (.lst ((List.range (hi - lo).toNat).map λk:Nat=>V.int (lo+k)))):=.only sm ((aX hp).trans (aX hl));have hl2:H2 l=none:=(aX hp).free hl;refine q2 _ Hs2 _ g3 ⟨l,_,rfl,hl2,sm.free hl2,aB,_,rfl,?_⟩;unfold rng;exact wk _ λk=>ai.mpr rfl
end
section
variable{X:Cx}{Γ:Ct}{W:XW}{i:Nat}{x:Str}{e ex:Expr}{ge gx:ME}{px apos cpos pos:Pos}
theorem t9{i:Nat}{ρ:MEnv}{k:List D->Option oq}{o:oq}(h:BL i ρ k=some o):∃ds,ρ[i]?=some (some (.own (.lst ds)))/\k ds=some o:=by
 unfold BL at h;split at h
 ·rename_i ds hd;exact⟨ds,hd,h⟩
 ·cases h
theorem dE(hv:PE X (.Name x px) (nu i))(he:PD X Γ W e ge)(hs:starEach [e] X.env=(false,eval e X.env)::starEach [] X.env:=by rfl)
  (hbase:attributeBase (.Name x px) "append" X.env (eval (.Name x px) X.env)=eval (.Name x px) X.env:=by rfl)
  (hfew:((backTo cpos (starEach [e] X.env)).all (λx=>!x.1) && (backToKw cpos (keywordEach [] X.env)).all (λx=>x.1.isSome) && decide ([e].length+([]:List Keyword).length+(if([]:List Keyword).isEmpty then 0 else 1)<30))=true:=by rfl)
  (hline:(apos.endLine == cpos.line)=true:=by rfl) (hplain:(backTo cpos (starEach [] X.env)).any (·.1)=false:=by rfl) (hsw:swapsWith (.Call (.Attribute (.Name x px) "append" apos) [e] [] cpos) none pos.line X.env=pure false:=by rfl):
  sJ X Γ W (.Expr (.Call (.Attribute (.Name x px) "append" apos) [e] [] cpos) pos) (bj i ge):=
 PS.imp (uB (GS PySem.F.plainAttrs_list PySem.F.slot_list_append PySem.F.type_list_append tm hv (br he dY hs) hbase hfew hline hs hplain) hsw) λpins s σ H En I ⟨B0,B1,Hs,ρ,o,re,eo,q⟩=>by
  obtain⟨ds,hd,eo⟩:=t9 eo;obtain⟨a,ho,e1,e2,e3,e4,xs,rfl,rl⟩:=re.own i _ hd;refine⟨.ref a,e1,.inl ⟨rfl,xs,.of e4⟩,(Be re eo q).mono λy H1 ⟨Hs1,s,g1,rs,e5⟩=>?_⟩;obtain⟨hl,rfl⟩:=b0 e5;obtain⟨Hs2,g2,_,rp⟩:=rs.share g1;refine⟨a,xs,y,rfl,rfl,g2.h _ _ e4,by rw[←rl.length];exact lt_of_lt_of_le hl (by decide),q σ Hs2 _ g2.s ((re.grow g2).write hd e1 ⟨_,rfl,(rl.mono g2.s).append (.cons rp .nil)⟩)⟩
theorem yH(hK:X.K=Γ.K)(hv:PE X (.Name x px) (nu i))(he:PD X Γ W e ge)(hs:starEach [e] X.env=(false,eval e X.env)::starEach [] X.env:=by rfl)
  (hbase:attributeBase (.Name x px) "extend" X.env (eval (.Name x px) X.env)=eval (.Name x px) X.env:=by rfl)
  (hfew:((backTo cpos (starEach [e] X.env)).all (λx=>!x.1) && (backToKw cpos (keywordEach [] X.env)).all (λx=>x.1.isSome) && decide ([e].length+([]:List Keyword).length+(if([]:List Keyword).isEmpty then 0 else 1)<30))=true:=by rfl)
  (hline:(apos.endLine == cpos.line)=true:=by rfl) (hplain:(backTo cpos (starEach [] X.env)).any (·.1)=false:=by rfl) (hsw:swapsWith (.Call (.Attribute (.Name x px) "extend" apos) [e] [] cpos) none pos.line X.env=pure false:=by rfl):
  sJ X Γ W (.Expr (.Call (.Attribute (.Name x px) "extend" apos) [e] [] cpos) pos) (nH i ge):=
 PS.imp (uB (GS PySem.F.plainAttrs_list PySem.F.slot_list_extend PySem.F.type_list_extend (Jo.or zq zo) hv (br he dY hs) hbase hfew hline hs hplain) hsw) λpins s σ H En I ⟨B0,B1,Hs,ρ,o,re,eo,q⟩=>by
  obtain⟨ds,hd,eo⟩:=t9 eo;obtain⟨a,ho,e1,e2,e3,e4,xs,rfl,rl⟩:=re.own i _ hd;refine⟨.ref a,e1,.inl ⟨rfl,xs,.of e4⟩,(Be re eo q).mono λy H1 ⟨Hs1,s,g1,rs,e5⟩=>?_⟩;obtain⟨Hs2,g2,_,rp⟩:=rs.share g1;have wr:∀{es:List D}{ys:List V},RepL Γ Hs2 es ys->o=.next (ρ.set i (some (.own (.lst (ds++es)))))->En.nx σ (c8 H1 a (.lst (xs++ys))):=λ{es ys} rl2 eo=>by
   subst eo;exact q σ Hs2 _ g2.s ((re.grow g2).write hd e1 ⟨_,rfl,(rl.mono g2.s).append rl2⟩)
  cases hv:s.val with
  |lst es=>
   rw[hv] at e5 rp;obtain⟨hl,eo⟩:=b0 (c:=ds.length+es.length<=lim) e5;obtain⟨b,ys,rfl,rd,rl2⟩:=bH.mp rp;exact .inl ⟨a,b,xs,ys,rfl,rfl,g2.h _ _ e4,by rw[hK];exact Same.seq g2.i rd,by rw[←rl.length,←rl2.length];exact jN hl,wr rl2 eo.symm⟩
  |tup es=>
   rw[hv] at e5 rp;obtain⟨hl,eo⟩:=b0 (c:=ds.length+es.length<=lim) e5;obtain⟨b,ys,rfl,sq,rl2⟩:=bF.mp rp;exact .inr ⟨a,b,xs,ys,rfl,rfl,g2.h _ _ e4,by rw[hK];exact cu g2.i sq,by rw[←rl.length,←rl2.length];exact jN hl,wr rl2 eo.symm⟩
  |_=>rw[hv] at e5;cases e5
end
def W0:XW:=λ_ _ _=>False
theorem qi{Γ:Ct}{Hs H:Hp}(sm:Same Hs H){N:List Str}{ds:List D}{vs:List V}(rl:RepL Γ Hs ds vs)(tb:Same Γ.tb Hs):RE Γ Hs H Hs H (L2.start N vs) (cS N.length ds):=by
 have hl:=rl.length;have at':∀(i:Nat)(s:S),(cS N.length ds)[i]?=some (some s)->∃d,s=.sh d/\ds[i]?=some d:=λi s e=>by
  unfold cS at e;by_cases hi:i<ds.length
  ·rw[getElem?_append_left (by simpa using hi),getElem?_map,getElem?_eq_getElem hi] at e
   cases e;exact⟨ds[i],rfl,getElem?_eq_getElem hi⟩
  ·rw[getElem?_append_right (by simpa using hi),getElem?_replicate] at e
   split at e <;> cases e
 refine⟨.refl sm,λi d e=>?_,λi o e=>?_,λi j o u a _ e=>?_,?_,tb⟩
 ·obtain⟨d',e1,e2⟩:=at' i _ e;cases e1;obtain⟨v,e3,q⟩:=rl.get e2;refine⟨v,?_,q⟩;have hi:i<vs.length:=(List.getElem?_eq_some_iff.mp e3).1;unfold L2.start;rw[getElem?_append_left (by simpa using hi),getElem?_map,e3]
  rfl
 ·obtain⟨_,e1,_⟩:=at' i _ e;cases e1
 ·obtain⟨_,e1,_⟩:=at' i _ e;cases e1
 ·unfold cS L2.start;rw[length_append,length_append,length_map,length_map,length_replicate,length_replicate,hl]
section
variable{P:Program}{w:World}{K:Frag}{mg:Str->Option Value}{base:Heap}{Γ:Ct}
theorem xF{np n:Nat}{g:MC}{ds:List D}{r:R}(h:jl np n g ds=some r):ds.length=np/\JO (g (cS n ds))=some r:=by
 unfold jl at h;by_cases z:ds.length=np
 ·rw[if_pos z] at h;exact⟨z,h⟩
 ·rw[if_neg z] at h;cases h
theorem II{x qual:Str}{st:Stmt}{f:Addr}{fd:FuncData}{N ps:List Str}{k:Nat}{g:MC}(F:Fun K x qual st f fd)(S:aq N ps (ag st))
  (body:∀(cdv:Value)(A:Around)(outer:List PySem.Env)(s:Shared)(H:Hp)(E:XK),bN k (A.deeper (envOfC qual (ag st) s.heap.objs.size f cdv))->l0 (lP l3 P w K mg base N qual (ag st) f cdv A outer s H E).nox Γ W0 (aR st) g):
  dQ P w K mg base l3 (k+1) f fd ps (Fu Γ W0 (jl ps.length N.length g)):=by
 refine F.ok S (λvs H Q E ⟨Hs,ds,r,sm,rl,e,q,tb⟩=>?_) (λcdv A outer s H vs Q E hr ⟨Hs,ds,r,sm,rl,e,q,tb⟩=>?_)
 ·rw[←rl.length];exact(xF e).1
 ·obtain⟨_,e⟩:=xF e;refine⟨tS Γ W0 g,body cdv A outer s H E hr,?_⟩;cases h:g (cS N.length ds) with
  |none=>rw[h] at e;cases e
  |some o=>
   rw[h] at e;refine⟨Hs,H,Hs,cS N.length ds,o,qi sm rl tb,h,?_⟩;cases o with
   |next ρ'=>cases e;exact λσ' Hs' H' _ re=>q .non Hs' H' re.b (ic.of (fu.mpr rfl))
   |brk ρ'=>cases e
   |cont ρ'=>cases e
   |ret s=>cases e;exact λv Hs' H' _ g' rs=>q v Hs' H' g' rs
   |exc x=>cases e;exact λHs' H' _ g'=>q Hs' H' g'
theorem dQ.le{f:Addr}{fd:FuncData}{ps:List Str}{k:Nat}{F G:List D->Option R}(h:dQ P w K mg base l3 k f fd ps (Fu Γ W0 F))(l:∀ds r,G ds=some r->F ds=some r):dQ P w K mg base l3 k f fd ps (Fu Γ W0 G):=
 h.imp λvs H Q E ⟨Hs,ds,r,sm,rl,e,q,tb⟩=>⟨Hs,ds,r,sm,rl,l _ _ e,q,tb⟩
end
theorem vq(K:Frag):lU K "tuple" /\ lU K "list" /\ lU K "bool" /\ lU K "int" /\ lU K "str" := by
 refine⟨?_,?_,?_,?_,?_⟩ <;>
 ·intro t ht;have:t = "NoneType" \/ t = "bool" \/ t = "int" \/ t = "str" \/ t = "tuple" \/ t = "list" := by simpa using ht
  rcases this with rfl|rfl|rfl|rfl|rfl|rfl <;> rfl
def dR(P:Program)(w:World)(K:Frag)(mg:Str->Option Value)(base:Heap)(Γ:Ct)(k:Nat)(x:Str)(ps:List Str)(F:List D->Option R):Prop:=
 ∃f fd,dQ P w K mg base l3 k f fd ps (Fu Γ W0 F)/\mg x=some (.ref f)/\keepIn K (.ref f)=true/\gy K fd ps []
section
variable{X:Cx}{Γ:Ct}{k:Nat}{ps:List Str}{x:Str}{p pos:Pos}{e:Expr}{es:List Expr}{gs:List ME}{F:List D->Option R}
theorem aS(h:dR X.prog X.w X.K X.mg X.base Γ k x ps F)(hr:bN k X.A)(hg:Gl X x)(ha:oo X Γ W0 (e::es) gs)(hdb:(x == ("__debug__":Str))=false:=by decide)(he:starEach (e::es) X.env=(false,eval e X.env)::starEach es X.env:=by rfl)(hpl:(backTo pos (starEach es X.env)).any (·.1)=false:=by rfl):
  PD X Γ W0 (.Call (.Name x p) (e::es) [] pos) (ak F gs):=by
 obtain⟨f,fd,G,hm,hk,hb⟩:=h;exact FY G hr hg hm hk hb ha hdb he hpl
end
structure bz(K:Frag)(mg:Str->Option Value)(x:Str)(st:Stmt)(ps:List Str):Prop where
 ex:∃f fd,Fun K x x st f fd/\mg x=some (.ref f)/\gy K fd ps []
section
variable{P:Program}{w:World}{K:Frag}{mg:Str->Option Value}{base:Heap}{Γ:Ct}
theorem b9{x:Str}{st:Stmt}{N ps:List Str}{k:Nat}{g:MC}(L:bz K mg x st ps)(S:aq N ps (ag st))
  (body:∀(f:Addr)(cdv:Value)(A:Around)(outer:List PySem.Env)(s:Shared)(H:Hp)(E:XK),bN k (A.deeper (envOfC x (ag st) s.heap.objs.size f cdv))->l0 (lP l3 P w K mg base N x (ag st) f cdv A outer s H E).nox Γ W0 (aR st) g):
  dR P w K mg base Γ (k+1) x ps (jl ps.length N.length g):=by
 obtain⟨f,fd,F,hm,hb⟩:=L.ex;exact⟨f,fd,II F S (body f),hm,F.kp,hb⟩
theorem dR.mono{j k:Nat}{x:Str}{ps:List Str}{F:List D->Option R}(h:dR P w K mg base Γ j x ps F)(l:j<=k):dR P w K mg base Γ k x ps F:=by
 obtain⟨f,fd,G,r⟩:=h;exact⟨f,fd,G.mono l,r⟩
theorem dR.le{k:Nat}{x:Str}{ps:List Str}{F G:List D->Option R}(h:dR P w K mg base Γ k x ps F)(l:∀ds r,G ds=some r->F ds=some r):dR P w K mg base Γ k x ps G:=by
 obtain⟨f,fd,o,r⟩:=h;exact⟨f,fd,dQ.le o l,r⟩
theorem Gc{h:Heap}(X:K.In h)(G:h.Ns mainGlobals mg){x:Str}{st:Stmt}{ps:List Str}{f:Addr}{oc:Value}{od an:Option Addr}{osl:Array (Option Value)}{kV doc pm cdv ct:Value}(a:nsIn K mainGlobals x=some (some (.ref f)))
  (l:K.lookup f=some ⟨oc,od,.func (fnOf x x (bR st) (aR st) (ag st) .none kV doc pm an cdv ct),osl⟩) (c:codeIn K cdv x=true) (k:keepIn K (.ref f)=true)
  (hb:∀(kV doc pm:Value)(an:Option Addr)(cdv ct:Value)(us:List Value),us.length=ps.length->bindArgs (fnOf x x (bR st) (aR st) (ag st) .none kV doc pm an cdv ct) ⟨us,[]⟩=pure (ps.zip us)):bz K mg x st ps:=
 ⟨f,_,lJ l c k,mg_of X G a,(lJ l c k).binds hb⟩
end
theorem Cz(K:Frag):lU K "tuple" := (vq K).1
theorem Er(K:Frag):lU K "list" := (vq K).2.1
theorem Es(K:Frag):lU K "bool" := (vq K).2.2.1
theorem Gd(K:Frag):lU K "int" := (vq K).2.2.2.1
theorem dM:bootBuiltins "tuple" = some (.type "tuple"):=by decide +kernel
theorem vJ:bootBuiltins "list" = some (.type "list"):=by decide +kernel
theorem Gy:bootBuiltins "bool" = some (.type "bool"):=by decide +kernel
theorem IY:bootBuiltins "int" = some (.type "int"):=by decide +kernel
theorem IX:bootBuiltins "sum" = some (.builtin "sum"):=by decide +kernel
section
variable{X:Cx}{Γ:Ct}{W:XW}
theorem nN:iU X (binaryOp .LShift) (rD Γ W oJ):=λpins s σ H x y v u Q I rx ry ⟨Hs,d1,d2,r,sm,r1,r2,e,q⟩=>by
 obtain⟨i,j,rfl,rfl,e⟩:=eN (f:=λi j=>if 0<=j/\j<=1000000/\i.natAbs<2 ^ 64 then okI (i * 2 ^ j.toNat) else none) (λ_ _=>rfl) e;obtain⟨h,rfl⟩:=b0 e;exact Ia pins s σ H x y v u Q I rx ry ⟨i,j,ai.mp r1,ai.mp r2,h,gq sm q (ai.mpr rfl)⟩
theorem uL:iU X (binaryOp .RShift) (rD Γ W pq):=λpins s σ H x y v u Q I rx ry ⟨Hs,d1,d2,r,sm,r1,r2,e,q⟩=>by
 obtain⟨i,j,rfl,rfl,e⟩:=eN (f:=λi j=>if 0<=j then okI (i / 2 ^ j.toNat) else none) (λ_ _=>rfl) e;obtain⟨h,rfl⟩:=b0 e;exact I9 pins s σ H x y v u Q I rx ry ⟨i,j,ai.mp r1,ai.mp r2,h,gq sm q (ai.mpr rfl)⟩
theorem Aw:iU X (binaryOp .Pow) (rD Γ W CS):=λpins s σ H x y v u Q I rx ry ⟨Hs,d1,d2,r,sm,r1,r2,e,q⟩=>by
 obtain⟨i,j,rfl,rfl,e⟩:=eN (f:=λi j=>if 0<=j/\j<=1000000/\i.natAbs<2 ^ 64 then okI (i ^ j.toNat) else none) (λ_ _=>rfl) e;obtain⟨h,rfl⟩:=b0 e;exact Ic pins s σ H x y v u Q I rx ry ⟨i,j,ai.mp r1,ai.mp r2,h,gq sm q (ai.mpr rfl)⟩
theorem GB{x y:Int}(hx:0<=x)(hy:0<=y):Builtin.bitAnd x y=((x.toNat &&& y.toNat:Nat):Int):=by simp[Builtin.bitAnd,hx,hy]
theorem Ja{x y:Int}(hx:0<=x)(hy:0<=y):Builtin.bitOr x y=((x.toNat ||| y.toNat:Nat):Int):=by
 obtain⟨a,rfl⟩:∃a:Nat,x=a:=⟨x.toNat,by omega⟩
 obtain⟨b,rfl⟩:∃b:Nat,y=b:=⟨y.toNat,by omega⟩
 have h1:¬(0:Int)<=Builtin.bitNot (a:Int):=by unfold Builtin.bitNot;omega
 have h2:¬(0:Int)<=Builtin.bitNot (b:Int):=by unfold Builtin.bitNot;omega
 unfold Builtin.bitOr Builtin.bitAnd;rw[decide_eq_false h1,decide_eq_false h2];dsimp only;have e1:Builtin.bitNot (Builtin.bitNot (a:Int))=a:=by unfold Builtin.bitNot;omega
 have e2:Builtin.bitNot (Builtin.bitNot (b:Int))=b:=by unfold Builtin.bitNot;omega
 rw[e1,e2];simp only[toNat_natCast];unfold Builtin.bitNot;omega
theorem nO:iU X (binaryOp .BitAnd) (rD Γ W kn):=λpins s σ H x y v u Q I rx ry ⟨Hs,d1,d2,r,sm,r1,r2,e,q⟩=>by
 obtain⟨i,j,rfl,rfl,e⟩:=eN (f:=λi j=>if 0<=i/\0<=j then okI ((i.toNat &&& j.toNat:Nat):Int) else none) (λ_ _=>rfl) e;obtain⟨h,rfl⟩:=b0 e;exact Ih pins s σ H x y v u Q I rx ry ⟨i,j,ai.mp r1,ai.mp r2,by dsimp only;rw[GB h.1 h.2];exact gq sm q (ai.mpr rfl)⟩
theorem uM:iU X (binaryOp .BitOr) (rD Γ W vA):=λpins s σ H x y v u Q I rx ry ⟨Hs,d1,d2,r,sm,r1,r2,e,q⟩=>by
 obtain⟨i,j,rfl,rfl,e⟩:=eN (f:=λi j=>if 0<=i/\0<=j then okI ((i.toNat ||| j.toNat:Nat):Int) else none) (λ_ _=>rfl) e;obtain⟨h,rfl⟩:=b0 e;exact JP pins s σ H x y v u Q I rx ry ⟨i,j,ai.mp r1,ai.mp r2,by dsimp only;rw[Ja h.1 h.2];exact gq sm q (ai.mpr rfl)⟩
section
variable{a b c:Expr}{ga gb gc:ME}{pos:Pos}
theorem JN{op:UnaryOp}{f:D->Option R}{rr:V->Hp->VK->Prop}(ho:Kr X (unaryOp op) rr)(hf:∀d v Hs H r Q,Same Hs H->Rep Γ Hs d v->f d=some r->RQ Γ W Hs H r Q->rr v H Q)(ha:PD X Γ W a ga):PD X Γ W (.UnaryOp op a pos) (l5 f ga):=
 PE.imp (GR ho ha) λ_ _ σ H Q _ t=>by
  obtain⟨B0,B1,Hs,ρ,r,re,e,q⟩:=t;exact(bV re e q).mono λv H1 ⟨Hs1,d,g1,re1,rp,e1,q1⟩=>hf d v Hs1 H1 r Q re1.b.i rp e1 q1
theorem FV(ha:PD X Γ W a ga):PD X Γ W (.UnaryOp .USub a pos) (l5 IT ga):=JN Di (λd v Hs H r Q sm rp e q=>by
 cases d with
 |int i=>cases e;exact⟨i,ai.mp rp,gq sm q (ai.mpr rfl)⟩
 |non=>cases e
 |bl _=>cases e
 |str _=>cases e
 |tup _=>cases e
 |lst _=>cases e
 |fn _ _=>cases e
 |obj _ _ _=>cases e) ha
end
theorem Fc:bootBuiltins "max" = some (.builtin "max"):=by decide +kernel
end
section
variable{X:Cx}{Γ:Ct}{W:XW}
theorem ny{K:Frag}{Hx Hy:Hp}{bb:Bool}{l:Addr}{zs:List V}(k:Same Hx Hy)(s:A8 K Hx bb l zs):A8 K Hy bb l zs:=by
 cases bb with
 |true=>exact Same.seq k s
 |false=>exact cu k s
theorem DK{a:Expr}{ga:ME}{p pos tp:Pos}{elts:List Expr}{kt:Nat}(hK:X.K=Γ.K)(hg:Gl X "enumerate")(hm:X.mg "enumerate" = none)(ha:PD X Γ W a ga)(hs1:starEach [a] X.env=(false,eval a X.env)::starEach [] X.env:=by rfl)(hs3:starEach [a] X.env=[(false,eval a X.env)]:=by rfl):
  GG X Γ W (.Tuple elts kt tp) (.Call (.Name "enumerate" p) [a] [] pos) (xm ga):=PI.imp (FN hg hm (br ha dY hs1) hs3) λ_ _ σ H Q _ ⟨B0,B1,Hs,ρ,r,re,e,q⟩=>by
 refine(Fq re e q).mono λv H1 ⟨Hs1,d,g1,re1,rp,e1,q1⟩=>?_;have sm:=re1.b.i;have step:∀(bb:Bool)(l:Addr)(xs:List V)(ds:List D),v=.ref l->A8 X.K Hs1 bb l xs->RepL Γ Hs1 ds xs->r=.ok ((List.range ds.length).zipWith (λ(i:Nat) d=>D.tup [.int i,d]) ds)->∃b l,[v]=[V.ref l]/\(∃xs,A8 X.K H1 b l xs)/\Q (Lh X.K b l) H1:=λbb l xs ds ev s1 rl er=>by
  subst ev er;have hlen:((List.range ds.length).zipWith (λ(i:Nat) d=>D.tup [.int i,d]) ds).length=ds.length:=by rw[List.length_zipWith,length_range,Nat.min_self]
  refine⟨bb,l,rfl,⟨xs,ny sm s1⟩,q1 _ Hs1 H1 (.refl sm) ⟨λi Hs3 H3 hi k1 k2=>?_,λHs3 H3 k1 k2=>?_,λi Hs3 H3 x H4 hi k1 k2 y=>?_⟩⟩
  ·rw[hlen] at hi;have i1:i<xs.length:=by rw[←rl.length];omega
   exact⟨xs,xs[i],ny (k1.trans k2) s1,getElem?_eq_getElem i1⟩
  ·exact⟨xs,ny (k1.trans k2) s1,by rw[hlen,rl.length];exact le_refl _⟩
  ·rw[hlen] at hi;obtain⟨p,u,rfl,hp,rfl,f1⟩:=y;obtain⟨x1,e1,q1'⟩:=rl.get (getElem?_eq_getElem hi);have z1:=f1 xs (ny (k1.trans k2) s1);rw[e1] at z1;cases z1;refine⟨.tup [.int i,ds[i]],c8 Hs3 p (.tup [.int i,u]),?_,.new k2 hp,?_⟩
   ·rw[List.getElem?_zipWith,getElem?_range hi,getElem?_eq_getElem hi]
   ·have k3:Same Hs3 (c8 Hs3 p (.tup [.int i,u])):=aX (k2.free hp);exact bF.mpr ⟨p,[.int i,u],rfl,.of aB,.cons (ai.mpr rfl) (.cons ((q1'.mono k1).mono k3) .nil)⟩
 cases d with
 |lst ds=>
  cases e1;obtain⟨l,xs,ev,s1,rl⟩:=bH.mp rp;rw[←hK] at s1;exact step true l xs ds ev s1 rl rfl
 |tup ds=>
  cases e1;obtain⟨l,xs,ev,s1,rl⟩:=bF.mp rp;rw[←hK] at s1;exact step false l xs ds ev s1 rl rfl
 |_=>cases e1
theorem pF(n d:Nat)(o:Option Int):HT.sIx n d o=jm n d o:=by cases o <;> rfl
theorem xS{H:Hp}{ds:List D}{xs:List V}(rl:RepL Γ H ds xs)(lo hi:Option Int):RepL Γ H (xT ds lo hi) (xR xs lo hi):=by
 unfold xT xR;rw[pF,pF,←rl.length];exact(rl.drop _).take _
def Hw(Γ:Ct)(W:XW):V->Option Int->Option Int->Hp->VK->Prop:=λv lo hi H Q=>∃Hs d r,Same Hs H/\Rep Γ Hs d v/\lN d lo hi=some r/\RQ Γ W Hs H r Q
theorem Ly(hK:X.K=Γ.K):Hh X (Hw Γ W):=λpins s σ H x v vl vu lo hi sl Q I rx hs pl pu ⟨Hs,d,r,sm,rp,e,q⟩=>by
 cases d with
 |tup ds=>
  obtain⟨a,xs,rfl,sq,rl⟩:=bF.mp rp;have e':(if jm ds.length 0 lo=0/\jm ds.length ds.length hi=ds.length then none else okD (.tup (xT ds lo hi)))=some r:=e;by_cases hw:jm ds.length 0 lo=0/\jm ds.length ds.length hi=ds.length
  ·rw[if_pos hw] at e';cases e'
  ·rw[if_neg hw] at e';cases e';exact Hn pins s σ H _ v vl vu lo hi sl Q I rx hs pl pu ⟨a,xs,rfl,by rw[hK];exact cu sm sq,by rw[pF,pF,←rl.length];exact hw,λp hp=>uy sm q (xS rl lo hi) hp⟩
 |lst ds=>
  obtain⟨a,xs,rfl,sq,rl⟩:=bH.mp rp;cases e;exact Fv pins s σ H _ v vl vu lo hi sl Q I rx hs pl pu ⟨a,xs,rfl,by rw[hK];exact Same.seq sm sq,λp hp=>nJ sm q (xS rl lo hi) hp⟩
 |_=>cases e
def tP(Γ:Ct)(W:XW)(o:Option ME):TO:=match o with
 |none=>Ah
 |some g=>GI (tD Γ W g)
abbrev Ks(X:Cx)(Γ:Ct)(W:XW)(e:Option Expr)(o:Option ME):Prop:=PO X e (tP Γ W o)
theorem j5:Ks X Γ W none none:=FK
theorem eJ{e:Expr}{g:ME}(h:PD X Γ W e g):Ks X Γ W (some e) (some g):=FJ h
theorem t7{o:Option ME}{B0 B1 Hs H:Hp}{σ:L2.St}{ρ:MEnv}{k:Option Int->Option R}{r:R}{Q:VK}(re:RE Γ B0 B1 Hs H σ ρ)(e:Au o ρ k=some r)(q:RQ Γ W Hs H r Q){Q':Option Int->Hp->Prop}
  (h:∀i H1 Hs1,Grow Hs H Hs1 H1->RE Γ B0 B1 Hs1 H1 σ ρ->k i=some r->RQ Γ W Hs1 H1 r Q->Q' i H1):tP Γ W o σ H Q':=by
 cases o with
 |none=>exact h none H Hs (.refl re.b.i) re e q
 |some g=>
  have e':bh (g ρ) (λd=>match d with|.int i=>k (some i)|_=>none)=some r:=e
  refine(bV re e' q).mono λv H1 ⟨Hs1,d,g1,re1,rp,e1,q1⟩=>?_;cases d with
  |int i=>exact⟨i,ai.mp rp,h (some i) H1 Hs1 g1 re1 e1 q1⟩
  |non=>cases e1
  |bl _=>cases e1
  |str _=>cases e1
  |tup _=>cases e1
  |lst _=>cases e1
  |fn _ _=>cases e1
  |obj _ _ _=>cases e1
theorem fW{e:Expr}{g:ME}{lo hi:Option Expr}{gl gh:Option ME}{pos p2:Pos}(hK:X.K=Γ.K)(he:PD X Γ W e g)(hl:Ks X Γ W lo gl)(hh:Ks X Γ W hi gh):PD X Γ W (.Subscript e (.Slice lo hi none p2) pos) (bx g gl gh):=
 PE.imp (DN (Ly hK) he hl hh) λ_ _ σ H Q _ ⟨B0,B1,Hs,ρ,r,re,e,q⟩=>by
  refine(bV re e q).mono λv H1 ⟨Hs1,d,g1,re1,rp,e1,q1⟩=>?_;refine t7 re1 e1 q1 λl H2 Hs2 g2 re2 e2 q2=>?_;refine t7 re2 e2 q2 λu H3 Hs3 g3 re3 e3 q3=>?_;exact⟨Hs3,d,r,re3.b.i,(rp.mono g2.s).mono g3.s,e3,q3⟩
end
theorem insD_mem(k x:Int):∀l:List Int,x∈oG k l↔x=k\/x∈l
 |[]=>by simp[oG]
 |y::r=>by
  unfold oG;split
  ·simp
  ·split
   ·rename_i h;subst h;simp
   ·rw[mem_cons,insD_mem k x r,mem_cons];constructor
    ·rintro (h|h|h) <;> simp[h]
    ·rintro (h|h|h) <;> simp[h]
theorem AE(k:Int):∀l:List Int,l.Pairwise (· < ·)->(oG k l).Pairwise (· < ·)
 |[],_=>by simp[oG]
 |y::r,h=>by
  obtain⟨h1,h2⟩:=pairwise_cons.mp h;unfold oG;split
  ·rename_i hk;refine pairwise_cons.mpr ⟨λz hz=>?_,h⟩;rcases mem_cons.mp hz with rfl|hz
   ·exact hk
   ·have:=h1 z hz;omega
  ·split
   ·exact h
   ·refine pairwise_cons.mpr ⟨λz hz=>?_,AE k r h2⟩;rcases(insD_mem k z r).mp hz with rfl|hz
    ·omega
    ·exact h1 z hz
theorem sortD_mem(x:Int):∀l:List Int,x∈l8 l↔x∈l
 |[]=>by simp[l8]
 |y::r=>by
  show x∈oG y (l8 r)↔_;rw[insD_mem,sortD_mem x r,mem_cons]
theorem w5:∀l:List Int,(l8 l).Pairwise (· < ·)
 |[]=>by simp[l8]
 |y::r=>AE y _ (w5 r)
theorem tq:∀{l m:List Int},l.Pairwise (· < ·)->m.Pairwise (· < ·)->(∀x,x∈l↔x∈m)->l=m
 |[],[],_,_,_=>rfl
 |[],y::m,_,_,h=>by have:=(h y).mpr (mem_cons_self);cases this
 |x::l,[],_,_,h=>by have:=(h x).mp (mem_cons_self);cases this
 |x::l,y::m,h1,h2,h=>by
  obtain⟨a1,a2⟩:=pairwise_cons.mp h1;obtain⟨b1,b2⟩:=pairwise_cons.mp h2;have e:x=y:=by
   have p:=(h x).mp mem_cons_self;have q:=(h y).mpr mem_cons_self;rcases mem_cons.mp p with e|p
   ·exact e
   ·rcases mem_cons.mp q with e|q
    ·exact e.symm
    ·have:=b1 x p;have:=a1 y q;omega
  subst e;congr 1;refine tq a2 b2 λz=>⟨λhz=>?_,λhz=>?_⟩
  ·rcases mem_cons.mp ((h z).mp (mem_cons_of_mem _ hz)) with rfl|q
   ·have:=a1 z hz;omega
   ·exact q
  ·rcases mem_cons.mp ((h z).mpr (mem_cons_of_mem _ hz)) with rfl|q
   ·have:=b1 z hz;omega
   ·exact q
theorem Bl{ns ks l:List Int}(hm:∀n,n∈ks↔n∈ns)(nd:ks.Nodup)(pm:l.Perm ks)(so:l.Pairwise (·<=·)):l=l8 ns:=by
 refine tq ?_ (w5 ns) λx=>by rw[sortD_mem,←hm,pm.mem_iff]
 have nd':l.Nodup:=pm.nodup_iff.mpr nd;have h:=List.Pairwise.and so nd';exact h.imp λ{a b} ⟨h1,h2⟩=>by omega
section
variable{X:Cx}{Γ:Ct}{W:XW}
theorem Gp{ns:List Int}(h:fewD ns=true):few ns:=by
 unfold fewD at h;simp only[Bool.and_eq_true,decide_eq_true_eq,all_eq_true] at h;exact⟨h.1,λn hn=>by simpa using h.2 n hn⟩
theorem uF{a:Expr}{g:ME}{p p' pos' pos:Pos}(hK:X.K=Γ.K)(hc:X.calm=true)(hg:Gl X "sorted")(hm:X.mg "sorted" = none)(hg2:Gl X "set")(hm2:X.mg "set" = none)(ha:PD X Γ W a g)
  (hs1:starEach [a] X.env=(false,eval a X.env)::starEach [] X.env:=by rfl) (hpl:(backTo pos' (starEach [] X.env)).any (·.1)=false:=by rfl)
  (hs3:starEach [.Call (.Name "set" p') [a] [] pos'] X.env=(false,eval (.Call (.Name "set" p') [a] [] pos') X.env)::starEach [] X.env:=by rfl) (hpl2:(backTo pos (starEach [] X.env)).any (·.1)=false:=by rfl):
  PD X Γ W (.Call (.Name "sorted" p) [.Call (.Name "set" p') [a] [] pos'] [] pos) (l5 r9 g):=
 PE.imp (lu (vG hc) hg hm vL (br (gA (CZ hc) hg2 hm2 tY (br ha dY hs1) (by decide) (by decide) hs1 hpl) dY hs3) (by decide) (by decide) hs3 hpl2) λ_ _ σ H Q _ ⟨B0,B1,Hs,ρ,r,re,e,q⟩=>by
  refine(bV re e q).mono λv H1 ⟨Hs1,d,g1,re1,rp,e1,q1⟩=>?_;cases d with
  |lst ds=>
   have e1:(intsOf ds).bind (λns=>if fewD ns=true then okL ((l8 ns).map D.int) else none)=some r:=e1;cases hi:intsOf ds with
   |none=>rw[hi] at e1;cases e1
   |some ns=>
    rw[hi] at e1;obtain⟨hf,rfl⟩:=b0 (c:=fewD ns=true) e1;obtain⟨b,xs,rfl,sq,rl⟩:=bH.mp rp;have ex:=rl.intsOf hi;subst ex;have fw:=Gp hf;have sm:=re1.b.i;refine⟨b,ns,rfl,by rw[hK];exact Same.seq sm sq,fw,λa ks ha hm nd=>?_⟩
    refine⟨a,ks,rfl,aB,?_,λl ms hl pm so=>?_⟩
    ·have:ks.length<=ns.length:=List.Nodup.length_le_of_subset nd λx hx=>(hm x).mp hx;have:=fw.1;omega
    ·have hl1:H1 l=none:=(aX ha).free hl;have ems:=Bl hm nd pm so;subst ems;exact q1 _ Hs1 _ (.only sm ((aX ha).trans (aX hl))) ⟨l,_,rfl,hl1,sm.free hl1,aB,_,rfl,RepL.ints _⟩
  |_=>cases e1
end
theorem xG{Γ:Ct}{H:Hp}{f:Str}:∀{ns:List Str}{ds:List D}{xs:List V}{d:D},RepL Γ H ds xs->vy f ns ds=some d->∃v,(ns.zip xs).lookup f=some v/\Rep Γ H d v
 |[],ds,xs,d,_,e=>by cases ds <;> cases e
 |n::ns,[],xs,d,_,e=>by cases e
 |n::ns,d0::ds,xs,d,r,e=>by
  obtain⟨x,r',rfl,q,t⟩:=aZ.mp r;unfold vy at e;rw[List.zip_cons_cons,lookup_cons];cases h:(f == n) with
  |true=>rw[h] at e;rw[if_pos rfl] at e;cases e;exact⟨x,rfl,q⟩
  |false=>rw[h] at e;rw[if_neg Bool.false_ne_true] at e;exact xG t e
theorem ie{m:Str}:∀{ns:List Str}{xs:List V},ns.contains m=false->(ns.zip xs).lookup m=none
 |[],xs,_=>by cases xs <;> rfl
 |n::ns,[],_=>rfl
 |n::ns,x::xs,h=>by
  rw[List.contains_cons,Bool.or_eq_false_iff] at h;rw[List.zip_cons_cons,lookup_cons,h.1];exact ie h.2
section
variable{X:Cx}{Γ:Ct}{W:XW}{e o:Expr}{es:List Expr}{g go:ME}{gs:List ME}{f m x:Str}{p pos apos:Pos}
theorem jL{cs:List String}(hK:X.K=Γ.K)(hC:∀c∈cs,jR Γ.K (Γ.cls c)/\cq Γ.K (Γ.cls c) f)(he:PD X Γ W e g)(hb:attributeBase e f X.env (eval e X.env)=eval e X.env:=by rfl):PD X Γ W (.Attribute e f pos) (l5 (o3 cs f) g):=
 PE.imp (HS he hb) λ_ _ σ H Q _ ⟨B0,B1,Hs,ρ,r,re,e,q⟩=>by
  refine(bV (k:=o3 cs f) re e q).mono λv H1 ⟨Hs1,d,g1,re1,rp,e1,q1⟩=>?_;cases d with
  |obj c ns ds=>
   unfold o3 at e1;by_cases hc:cs.contains c=true
   ·simp only[if_pos hc] at e1;cases hf:vy f ns ds with
    |none=>rw[hf] at e1;cases e1
    |some d'=>
     rw[hf] at e1;cases e1;obtain⟨a,dx,xs,rfl,ea,rl⟩:=pH.mp rp;obtain⟨v',hl,rv⟩:=xG rl hf;obtain⟨c1,c2⟩:=hC c (by simpa using hc)
     exact⟨a,_,dx,_,v',rfl,re1.b.i _ _ ea,hK▸c1,hK▸c2,hl,q1 v' Hs1 H1 (.refl re1.b.i) (ic.of rv)⟩
   ·simp only[if_neg hc] at e1;cases e1
  |_=>cases e1
end
def cy(P:Program)(w:World)(K:Frag)(mg:Str->Option Value)(base:Heap)(Γ:Ct)(k:Nat)(m:Str)(ps:List Str)(F:List D->Option R)(cs:List String):Prop:=
 ∃f fd,dQ P w K mg base l3 k f fd ps (Fu Γ W0 F)/\gy K fd ps []/\∀c∈cs,jR K (Γ.cls c)/\Jg K (Γ.cls c) m f
def y6(X:Cx)(Γ:Ct)(m:Str)(tb:String->Option (List D->Option R)):Prop:=
 ∀c F,tb c=some F->∃k ps cs,c∈cs/\cy X.prog X.w X.K X.mg X.base Γ k m ps F cs/\bN k X.A
def pU:String->Option (List D->Option R):=λ_=>none
def vQ(cs:List String)(F:List D->Option R)(t:String->Option (List D->Option R)):String->Option (List D->Option R):=λc=>if cs.contains c=true then some F else t c
section
variable{X:Cx}{Γ:Ct}{e o:Expr}{es:List Expr}{g go:ME}{gs:List ME}{f m x:Str}{p pos apos:Pos}{tb:String->Option (List D->Option R)}
theorem dZ:y6 X Γ m pU:=λ_ _ h=>nomatch h
theorem bB{k:Nat}{ps:List Str}{F:List D->Option R}{cs:List String}(h:cy X.prog X.w X.K X.mg X.base Γ k m ps F cs)(r:bN k X.A)(t:y6 X Γ m tb):y6 X Γ m (vQ cs F tb):=λc G e=>by
 unfold vQ at e;by_cases hc:cs.contains c=true
 ·rw[if_pos hc] at e;cases e;exact⟨k,ps,cs,by simpa using hc,h,r⟩
 ·rw[if_neg hc] at e;exact t c G e
theorem qZ{d:D}{ρ:MEnv}{r:R} (h:(match d with
 |.obj c ns ds=>if ns.contains m=true then none else(match tb c with
  |some F=>cx gs ρ λvs=>F (.obj c ns ds::vs)
  |none=>none)
 |_=>none)=some r):∃c ns ds F,d=.obj c ns ds/\ns.contains m=false/\tb c=some F/\cx gs ρ (λvs=>F (.obj c ns ds::vs))=some r:=by
 cases d with
 |obj c ns ds=>
  dsimp only at h;cases hn:ns.contains m with
  |true=>rw[hn,if_pos rfl] at h;cases h
  |false=>
   rw[hn,if_neg Bool.false_ne_true] at h;cases ht:tb c with
   |none=>rw[ht] at h;cases h
   |some F=>rw[ht] at h;exact⟨c,ns,ds,F,rfl,hn,ht,h⟩
 |_=>cases h
theorem fA{pl:Sem Bool}(T:y6 X Γ m tb)(he:PD X Γ W0 o go)(ha:oo X Γ W0 (e::es) gs)
  (hst:starEach (e::es) X.env=(false,eval e X.env)::starEach es X.env:=by rfl) (hpl:(backTo pos (starEach es X.env)).any (·.1)=false:=by rfl)
  (ht:eval (.Call (.Attribute o m apos) (e::es) [] pos) X.env=(do
   let ov ←eval o X.env
   standAt apos.atName
   let (f,first) ←holding [ov] (getMethod ov m pl)
   callWith pos f first (backTo pos (starEach (e::es) X.env)) (backToKw pos (keywordEach [] X.env))):=by rfl):
  PD X Γ W0 (.Call (.Attribute o m apos) (e::es) [] pos) (dC m tb go gs):=by
 intro pins s σ H Q I ⟨B0,B1,Hs,ρ,r,re,e0,q⟩;refine methodCall_KW (pl:=pl) (dA (he pins s σ H _ I (bV re e0 q)) λu s1 ⟨x,H1,I1,rx,Hs1,d,g1,re1,rp,e1,q1⟩=>?_) ht;obtain⟨c,ns,ds,F,rfl,hn,htb,e2⟩:=qZ e1;obtain⟨a,dx,xs,rfl,ea,rl⟩:=pH.mp rp;obtain rfl:u=Value.ref a:=rx;obtain⟨k,ps,cs,hc,⟨f,fd,G,hb,hcs⟩,hr⟩:=T c F htb;obtain⟨c1,c2⟩:=hcs c hc;refine qV I1 (re1.b.i _ _ ea) c1 c2 (ie hn) ?_;refine callWith_K (first:=[.ref a]) (h₀:=X.base) I.ok.mod.kin c2.kp (dA (ha pos pins s1 σ H1 _ I1 (kr gs re1 e2 q1)) λus s2 ⟨vs,H2,I2,rr,Hs2,ds2,g2,re2,rps,e3,q2⟩=>⟨I2.kIn,?_⟩) hst hpl
 exact ux (E:=E0) (dvs:=[]) (us:=.ref a::us) (vs:=.ref a::vs) G hr hb .nil oZ I2 (.cons rfl rr) ⟨Hs2,.obj c ns ds::ds2,r,re2.b.i,by rw[append_nil];exact .cons (rp.mono g2.s) rps,e3,q2,re2.tb⟩
theorem wz{pl:Sem Bool}(T:y6 X Γ m tb)(he:PD X Γ W0 o go)
  (ht:eval (.Call (.Attribute o m apos) [] [] pos) X.env=(do
   let ov ←eval o X.env
   standAt apos.atName
   let (f,first) ←holding [ov] (getMethod ov m pl)
   callWith pos f first (backTo pos (starEach [] X.env)) (backToKw pos (keywordEach [] X.env))):=by rfl):
  PD X Γ W0 (.Call (.Attribute o m apos) [] [] pos) (dC m tb go []):=by
 intro pins s σ H Q I ⟨B0,B1,Hs,ρ,r,re,e0,q⟩;refine methodCall_KW (pl:=pl) (dA (he pins s σ H _ I (bV re e0 q)) λu s1 ⟨x,H1,I1,rx,Hs1,d,g1,re1,rp,e1,q1⟩=>?_) ht;obtain⟨c,ns,ds,F,rfl,hn,htb,e2⟩:=qZ e1;obtain⟨a,dx,xs,rfl,ea,rl⟩:=pH.mp rp;obtain rfl:u=Value.ref a:=rx;obtain⟨k,ps,cs,hc,⟨f,fd,G,hb,hcs⟩,hr⟩:=T c F htb;obtain⟨c1,c2⟩:=hcs c hc;refine qV I1 (re1.b.i _ _ ea) c1 c2 (ie hn) ?_;exact PySem.W.callWith_K0 (first:=[.ref a]) I1.kIn c2.kp (ux (E:=E0) (dvs:=[]) (us:=[.ref a]) (vs:=[.ref a]) G hr hb .nil oZ I1 (.cons rfl .nil) ⟨Hs1,[.obj c ns ds],r,re1.b.i,.cons rp .nil,e2,q1,re1.tb⟩)
end
structure jI(a:Addr)(Hs H Hs' H':Hp):Prop where
 s:Same Hs Hs'
 h:∀b o,b≠a->H b=some o->H' b=some o
 i:Same Hs' H'
 n:∀b o,Hs' b=some o->Hs b=some o\/H b=none
theorem Grow.x{a:Addr}{Hs H Hs' H':Hp}(g:Grow Hs H Hs' H'):jI a Hs H Hs' H':=⟨g.s,λb o _ e=>g.h b o e,g.i,g.n⟩
theorem jI.trans{a:Addr}{Hs H Hs1 H1 Hs2 H2:Hp}(x:jI a Hs H Hs1 H1)(y:jI a Hs1 H1 Hs2 H2)(ha:Hs1 a=none)(hb:∃o,H1 a=some o):jI a Hs H Hs2 H2:=
 ⟨x.s.trans y.s,λb o hb e=>y.h b o hb (x.h b o hb e),y.i,λb o e=>by
  rcases y.n b o e with z|z
  ·exact x.n b o z
  ·by_cases hba:b=a
   ·subst hba;obtain⟨o',ho'⟩:=hb;rw[ho'] at z;cases z
   ·right;cases q:H b with
    |none=>rfl
    |some u=>rw[x.h b u hba q] at z;cases z⟩
theorem jI.none{a:Addr}{Hs H Hs' H':Hp}(g:jI a Hs H Hs' H'){ho:HO}(h:Hs a=Option.none)(h':H a=some ho):Hs' a=Option.none:=by
 cases q:Hs' a with
 |none=>rfl
 |some u=>
  rcases g.n a u q with z|z
  ·rw[h] at z;cases z
  ·rw[h'] at z;cases z
inductive KJ(Γ:Ct)(F:gn)(vs:List V)(H:Hp)(Q:VK)(E:XK):Prop
 |mk (a:Addr) (xs:List V) (Hs:Hp) (o:O) (ho:HO) (ds:List D) (o':O) (ev:vs=.ref a::xs) (sm:Same Hs H) (hs:Hs a=none) (hh:H a=some ho) (ro:oP Γ Hs o ho) (rl:RepL Γ Hs ds xs) (e:F o ds=some o')
  (q:∀Hs' H' ho',jI a Hs H Hs' H'->H' a=some ho'->oP Γ Hs' o' ho'->Q .non H') (tb:Same Γ.tb Hs)
structure cz(P:Program)(w:World)(K:Frag)(mg:Str->Option Value)(base:Heap)(Γ:Ct)(k:Nat)(c:String)(x:Str)(ps:List Str)(F:gn):Prop where
 ex:∃f fd,dQ P w K mg base l3 k f fd ps (KJ Γ F)/\gy K fd ps []/\keepIn K (.ref f)=true/\Mk K (Γ.cls c) f/\findCls K (.ref (Γ.cls c)) (.type "type") "__init__" = some (.val (.ref f))
 at_:mg x=some (.ref (Γ.cls c))
 sp:specialIn K (.ref (Γ.cls c)) "__getattribute__" = some (some (.builtin "type.__getattribute__"))
 rd:readsIn K (Γ.cls c) (.type "type")=true
section
variable{X:Cx}{Γ:Ct}{e o:Expr}{es:List Expr}{g go:ME}{gs:List ME}{f m x:Str}{p pos apos:Pos}{k:Nat}{c:String}{ps:List Str}{F:gn}
theorem zU{ds:List D}{r:R} (h:(match F (.obj c [] []) ds with
 |some o=>some (R.ok (.own o))
 |none=>none)=some r):∃o,F (.obj c [] []) ds=some o/\r=.ok (.own o):=by
 cases q:F (.obj c [] []) ds with
 |none=>rw[q] at h;cases h
 |some o=>rw[q] at h;cases h;exact⟨o,rfl,rfl⟩
theorem AA{Hs H:Hp}{ds:List D}{vs:List V}{r:R}{Q:VK}(sm:Same Hs H)(rl:RepL Γ Hs ds vs) (e:(match F (.obj c [] []) ds with
 |some o=>some (R.ok (.own o))
 |none=>none)=some r) (q:RQ Γ W0 Hs H r Q) (tb:Same Γ.tb Hs):∀x dx,H x=none->H dx=none->dx≠x->
  KJ Γ F (.ref x::(vs++[])) (c8 (c8 H dx (.own x)) x (.ins (Γ.cls c) dx [])) (λv H2=>v=.non/\Q (.ref x) H2) E0:=by
 intro x dx hx hd ne;obtain⟨o,eo,rfl⟩:=zU e;have hxs:Hs x=none:=sm.free hx;have hds:Hs dx=none:=sm.free hd;refine⟨x,vs,Hs,.obj c [] [],_,ds,o,by rw[append_nil],λb u z=>?_,hxs,aB,⟨dx,[],rfl,.nil⟩,rl,eo,λHs' H' ho' gx e' ro=>⟨rfl,?_⟩,tb⟩
 ·rw[av (aG z hxs),av (aG z hds)];exact sm _ _ z
 ·have g:Grow Hs H Hs' H':=⟨gx.s,λb u z=>gx.h b u (aG z hx) (by rw[av (aG z hx),av (aG z hd)];exact z),gx.i,λb u z=>by
   rcases gx.n b u z with y|y
   ·exact .inl y
   ·right;by_cases hb:b=x
    ·subst hb;exact hx
    ·rw[av hb] at y;by_cases hb':b=dx
     ·subst hb';exact hd
     ·rw[av hb'] at y;exact y⟩
  exact q (.ref x) Hs' H' g ⟨x,ho',rfl,hx,gx.none hxs aB,e',ro⟩
theorem kL(h:cz X.prog X.w X.K X.mg X.base Γ k c x ps F)(hr:bN (k+1) X.A)(hg:Gl X x)(ha:oo X Γ W0 (e::es) gs)(hdb:(x == ("__debug__":Str))=false:=by decide)(he:starEach (e::es) X.env=(false,eval e X.env)::starEach es X.env:=by rfl)
  (hpl:(backTo pos (starEach es X.env)).any (·.1)=false:=by rfl):PD X Γ W0 (.Call (.Name x p) (e::es) [] pos) (gu c F gs):=by
 obtain⟨f,fd,G,hb,_,M,_⟩:=h.ex;exact PE.imp (FP (E:=E0) (dvs:=[]) (ds:=[]) M G hr hg h.at_ hb .nil oZ ha hdb he hpl) λ_ _ σ H Q _ ⟨B0,B1,Hs,ρ,r,re,e,q⟩=>by
  exact cL gs (λvs H1 ⟨Hs1,ds,_,re1,rp,e1,q1⟩=>AA re1.b.i rp e1 q1 re1.tb) (kr gs re e q)
theorem DS(h:cz X.prog X.w X.K X.mg X.base Γ k c x ps F)(hr:bN (k+1) X.A)(hg:Gl X x)(hdb:(x == ("__debug__":Str))=false:=by decide):PD X Γ W0 (.Call (.Name x p) [] [] pos) (gu c F []):=by
 obtain⟨f,fd,G,hb,_,M,_⟩:=h.ex;exact PE.imp (DP (E:=E0) (dvs:=[]) (ds:=[]) M G hr hg h.at_ hb .nil oZ hdb) λ_ _ σ H Q _ ⟨B0,B1,Hs,ρ,r,re,e,q⟩=>by
  exact AA re.b.i .nil e q re.tb
end
inductive tX(Γ:Ct)(g:MG)(D:pB)(σ:L2.St)(H:Hp):Prop
 |mk (a:Addr) (B0 B1 Hs:Hp) (ρ:MEnv) (o:O) (ho:HO) (o':O) (re:RE Γ B0 B1 Hs H σ ρ) (hb:B1 a=none) (no:∀(i:Nat)(u:O),ρ[i]?≠some (some (.own u))) (h0:σ[0]?=some (some (.ref a))) (hs:Hs a=none) (hh:H a=some ho) (ro:oP Γ Hs o ho) (e:g ρ o=some o')
  (q:∀Hs' H' ho',jI a Hs H Hs' H'->H' a=some ho'->oP Γ Hs' o' ho'->D.nx σ H')
abbrev Ld(X:Cx)(Γ:Ct)(st:Stmt)(g:MG):Prop:=PS X st (tX Γ g)
abbrev Fi(X:Cx)(Γ:Ct)(st:List Stmt)(g:MG):Prop:=pQ X st (tX Γ g)
theorem RE.growX{Γ:Ct}{B0 B1 Hs H Hs' H':Hp}{σ:L2.St}{ρ:MEnv}{a:Addr}(r:RE Γ B0 B1 Hs H σ ρ)(g:jI a Hs H Hs' H')(hb:B1 a=none)(no:∀(i:Nat)(u:O),ρ[i]?≠some (some (.own u)))(hs:Hs a=none):RE Γ B0 B1 Hs' H' σ ρ where
 tb:=r.tb.trans g.s
 b:=⟨r.b.s.trans g.s,λb o e=>g.h b o (aG e hb) (r.b.h b o e),g.i,λb o e=>by
  rcases g.n b o e with z|z
  ·exact r.b.n b o z
  ·exact .inr (r.b.h.free z)⟩
 sh:=λi d e=>let ⟨v,e1,q⟩:=r.sh i d e;⟨v,e1,q.mono g.s⟩
 own:=λi o e=>absurd e (no i o)
 apart:=r.apart
 len:=r.len
section
variable{X:Cx}{Γ:Ct}{st:Stmt}{rest:List Stmt}{g h:MG}{e o:Expr}{es:List Expr}{ge:ME}{gs:List ME}{f m x y:Str}{p px pos pos' apos cpos:Pos}{k:Nat}{c:String}{ps:List Str}{F:gn}
theorem fV:Fi X Γ [] kU:=pQ.imp Ap λD σ H ⟨a,B0,B1,Hs,ρ,o,ho,o',re,hb,no,h0,hs,hh,ro,e,q⟩=>by
 cases e;exact q Hs H ho (Grow.x (.refl re.b.i)) hh ro
theorem cF(h1:Ld X Γ st g)(h2:Fi X Γ rest h):Fi X Γ (st::rest) (gj g h):=pQ.imp (wt h1 h2) λD σ H ⟨a,B0,B1,Hs,ρ,o,ho,o',re,hb,no,h0,hs,hh,ro,e,q⟩=>by
 unfold gj at e;cases z:g ρ o with
 |none=>rw[z] at e;cases e
 |some o1=>
  rw[z] at e;refine⟨a,B0,B1,Hs,ρ,o,ho,o1,re,hb,no,h0,hs,hh,ro,z,λHs' H' ho' gx hh' ro'=>?_⟩;exact⟨a,B0,B1,Hs',ρ,o1,ho',o',re.growX gx hb no hs,hb,no,h0,gx.none hs hh,hh',ro',e,λHs2 H2 ho2 gx2 hh2 ro2=>q Hs2 H2 ho2 (gx.trans gx2 (gx.none hs hh) ⟨_,hh'⟩) hh2 ro2⟩
theorem wq{H:Hp}{y:V}{d:D}(q:Rep Γ H d y):∀{ns:List Str}{ds:List D}{xs:List V},ns.length=ds.length->RepL Γ H ds xs->∃xs',lr f y (ns.zip xs)=(putN f ns).zip xs'/\RepL Γ H (BC f d ns ds) xs'
 |[],ds,xs,hl,r=>by
  refine⟨[y],?_,.cons q .nil⟩;cases xs <;> rfl
 |n::ns,[],xs,hl,r=>by cases hl
 |n::ns,d0::ds,xs,hl,r=>by
  obtain⟨x,r',rfl,qx,t⟩:=aZ.mp r;unfold putN BC;rw[List.zip_cons_cons];by_cases hn:n=f
  ·rw[if_pos hn,if_pos hn];refine⟨y::r',?_,.cons q t⟩;show(if n=f then _ else _)=_;rw[if_pos hn];rfl
  ·rw[if_neg hn,if_neg hn];obtain⟨xs',e1,e2⟩:=wq q (Nat.succ.inj hl) t;refine⟨x::xs',?_,.cons qx e2⟩;show(if n=f then _ else _)=_;rw[if_neg hn,e1];rfl
theorem zM{cs:List String}{ρ:MEnv}{o o':O}(h:mF cs f ge ρ o=some o'):∃s c ns ds,ge ρ=some (.ok s)/\o=.obj c ns ds/\c∈cs/\ns.length=ds.length/\ns.length<900/\o'=.obj c (putN f ns) (BC f s.val ns ds):=by
 unfold mF at h;split at h
 ·rename_i s c ns ds e1;obtain⟨⟨h1,h2,h3⟩,h4⟩:=b0 h;exact⟨s,c,ns,ds,e1,rfl,by simpa using h1,h2,h3,h4.symm⟩
 ·cases h
theorem qj{cs:List String}(hK:X.K=Γ.K)(hC:∀c∈cs,jR Γ.K (Γ.cls c)/\cq Γ.K (Γ.cls c) f)(hv:PE X (.Name x px) (nu 0))(he:PD X Γ W0 e ge)(hs:swapsWith e (some (.Attribute (.Name x px) f pos')) pos.line X.env=pure false:=by rfl):Ld X Γ (.Assign [.Attribute (.Name x px) f pos'] e pos) (mF cs f ge):=
 PS.imp (HH hv he hs) λ_ _ σ H En _ ⟨a,B0,B1,Hs,ρ,o,ho,o',re,hb,no,h0,hs0,hh,ro,e,q⟩=>by
  obtain⟨s,c,ns,ds,e1,rfl,hc,hl,h9,rfl⟩:=zM e;refine⟨B0,B1,Hs,ρ,_,re,e1,λv Hs' H' g' rs=>?_⟩;obtain⟨Hs2,g2,_,rp⟩:=rs.share g';obtain⟨dx,xs,rfl,rl⟩:=ro;obtain⟨c1,c2⟩:=hC c hc;obtain⟨xs',e2,r2⟩:=wq (f:=f) rp hl (rl.mono g2.s);have hs2:Hs2 a=none:=g2.none hs0 hh;refine⟨.ref a,h0,a,_,dx,_,rfl,g2.h _ _ hh,hK▸c1,hK▸c2,?_,?_⟩
  ·rw[List.length_zip];exact Nat.lt_of_le_of_lt (Nat.min_le_left _ _) (lt_trans h9 (by decide))
  ·refine q Hs2 _ _ ⟨g2.s,λb u hb e=>?_,λb u e=>?_,g2.n⟩ aB ⟨dx,xs',by rw[e2],r2⟩
   ·rw[av hb];exact g2.h _ _ e
   ·rw[av (aG e hs2)];exact g2.i _ _ e
theorem n0:∀(gs:List ME){B0 B1 Hs H:Hp}{σ:L2.St}{ρ:MEnv}{ds:List D},RE Γ B0 B1 Hs H σ ρ->cY gs ρ=some ds->pd Γ W0 gs σ H (λvs H1=>∃Hs1,Grow Hs H Hs1 H1/\RepL Γ Hs1 ds vs)
 |[],B0,B1,Hs,H,σ,ρ,ds,re,e=>by
  cases e;exact⟨Hs,.refl re.b.i,.nil⟩
 |g::gs,B0,B1,Hs,H,σ,ρ,ds,re,e=>by
  unfold cY at e;split at e
  ·rename_i s hs;cases z:cY gs ρ with
   |none=>rw[z] at e;cases e
   |some ds'=>
    rw[z] at e;cases e;refine⟨B0,B1,Hs,ρ,_,re,hs,λv Hs' H' g' rs=>?_⟩;obtain⟨Hs2,g2,_,rp⟩:=rs.share g';refine cL gs (λvs H2 ⟨Hs3,g3,rl⟩=>?_) (n0 gs (re.grow g2) z);exact⟨Hs3,g2.trans g3,.cons (rp.mono g3.s) rl⟩
  ·cases e
theorem FU{t:TA}{pl:Sem Bool}{fa:Addr}{fd:FuncData}{sp:Sp}{C:Addr}(G:dQ X.prog X.w X.K X.mg X.base l3 k fa fd ps sp)(hb:gy X.K fd ps [])(hk:keepIn X.K (.ref fa)=true)(hf:findCls X.K (.ref C) (.type "type") m=some (.val (.ref fa)))
  (hm:X.mg x=some (.ref C)) (hsp:specialIn X.K (.ref C) "__getattribute__" = some (some (.builtin "type.__getattribute__"))) (hrd:readsIn X.K C (.type "type")=true) (hr:bN k X.A) (hg:Gl X x) (ha:PA X (e::es) t)
  (hdb:(x == ("__debug__":Str))=false:=by decide) (hst:starEach (e::es) X.env=(false,eval e X.env)::starEach es X.env:=by rfl) (hpl:(backTo pos (starEach es X.env)).any (·.1)=false:=by rfl)
  (ht:eval (.Call (.Attribute (.Name x p) m apos) (e::es) [] pos) X.env=(do
   let ov ←eval (.Name x p) X.env
   standAt apos.atName
   let (f,first) ←holding [ov] (getMethod ov m pl)
   callWith pos f first (backTo pos (starEach (e::es) X.env)) (backToKw pos (keywordEach [] X.env))):=by rfl):
  PE X (.Call (.Attribute (.Name x p) m apos) (e::es) [] pos) (GK sp [] E0 t):=by
 intro pins s σ H Q I h;refine methodCall_KW (pl:=pl) (pK I hg hm ?_ hdb) ht;refine PySem.W.method_cls I.kIn hsp (PySem.W.cls_value I.kIn hrd hf (by rfl) ?_)
 have I1:=I.tok (s.toks+1);refine callWith_K (first:=[]) (h₀:=X.base) I.ok.mod.kin hk (dA (ha pos pins _ σ H _ I1 h) λus s2 ⟨vs,H2,I2,rr,q2⟩=>⟨I2.kIn,?_⟩) hst hpl
 exact ux (E:=E0) (ds:=[]) (dvs:=[]) G hr hb .nil oZ I2 rr q2
theorem gU{pl:Sem Bool}(h:cz X.prog X.w X.K X.mg X.base Γ k c x ps F)(hr:bN k X.A)(hg:Gl X x)(hv:PE X (.Name y px) (nu 0))(ha:oo X Γ W0 es gs)
  (hsw:swapsWith (.Call (.Attribute (.Name x p) "__init__" apos) (.Name y px::es) [] cpos) none pos.line X.env=pure false:=by rfl)
  (hdb:(x == ("__debug__":Str))=false:=by decide) (hst:starEach (.Name y px::es) X.env=(false,eval (.Name y px) X.env)::starEach es X.env:=by rfl) (hpl:(backTo cpos (starEach es X.env)).any (·.1)=false:=by rfl)
  (ht:eval (.Call (.Attribute (.Name x p) "__init__" apos) (.Name y px::es) [] cpos) X.env=(do
   let ov ←eval (.Name x p) X.env
   standAt apos.atName
   let (f,first) ←holding [ov] (getMethod ov "__init__" pl)
   callWith cpos f first (backTo cpos (starEach (.Name y px::es) X.env)) (backToKw cpos (keywordEach [] X.env))):=by rfl):
  Ld X Γ (.Expr (.Call (.Attribute (.Name x p) "__init__" apos) (.Name y px::es) [] cpos) pos) (iw F gs):=by
 obtain⟨fa,fd,G,hb,hk,M,hf⟩:=h.ex;exact PS.imp (uB (FU (pl:=pl) G hb hk hf h.at_ h.sp h.rd hr hg (br hv ha hst) hdb hst hpl ht) hsw) λ_ _ σ H En _ ⟨a,B0,B1,Hs,ρ,o,ho,o',re,hb,no,h0,hs0,hh,ro,e,q⟩=>by
  unfold iw at e;cases z:cY gs ρ with
  |none=>rw[z] at e;cases e
  |some ds=>
   rw[z] at e;refine⟨.ref a,h0,cL gs (λvs H1 ⟨Hs1,g1,rl⟩=>?_) (n0 gs re z)⟩;refine⟨a,vs,Hs1,o,ho,ds,o',by rw[append_nil],g1.i,g1.none hs0 hh,g1.h _ _ hh,ro.mono g1.s,rl,e,λHs' H' ho' gx hh' ro'=>?_,re.tb.trans g1.s⟩
   exact q Hs' H' ho' (jI.trans (Grow.x g1) gx (g1.none hs0 hh) ⟨_,g1.h _ _ hh⟩) hh' ro'
end
theorem BA{Γ:Ct}{Hs H:Hp}(sm:Same Hs H){N:List Str}{ds:List D}{vs:List V}{v0:V}(hN:0<N.length)(rl:RepL Γ Hs ds vs)(tb:Same Γ.tb Hs):RE Γ Hs Hs Hs H (L2.start N (v0::vs)) (none::cS (N.length - 1) ds):=by
 have q:=qi (Γ:=Γ) sm (N:=N.tail) rl tb;have e1:L2.start N (v0::vs)=some v0::L2.start N.tail vs:=by
  unfold L2.start;rw[map_cons,length_cons,List.length_tail,List.cons_append];congr 3;omega
 have e2:N.tail.length=N.length - 1:=List.length_tail;rw[e2] at q;rw[e1];refine⟨⟨.refl _,sm,sm,λ_ _ z=>.inl z⟩,λi d e=>?_,λi o e=>?_,λi j o u a ij e f=>?_,by rw[length_cons,length_cons,q.len],tb⟩
 ·cases i with
  |zero=>cases e
  |succ i=>exact q.sh i d e
 ·cases i with
  |zero=>cases e
  |succ i=>
   obtain⟨a,ho,f1,f2,f3,f4,f5⟩:=q.own i o e;exact⟨a,ho,f1,sm.free f2,f3,f4,f5⟩
 ·cases i with
  |zero=>cases e
  |succ i=>
   cases j with
   |zero=>cases f
   |succ j=>exact q.apart i j o u a (λz=>ij (by rw[z])) e f
theorem Bj(n:Nat)(ds:List D)(i:Nat)(u:O):(none::cS n ds)[i]?≠some (some (.own u)):=by
 cases i with
 |zero=>intro e;cases e
 |succ i=>
  intro e;have e:(cS n ds)[i]?=some (some (.own u)):=e;unfold cS at e;by_cases hi:i<ds.length
  ·rw[getElem?_append_left (by simpa using hi),getElem?_map,getElem?_eq_getElem hi] at e
   cases e
  ·rw[getElem?_append_right (by simpa using hi),getElem?_replicate] at e
   split at e <;> cases e
theorem L7{P:Program}{w:World}{K:Frag}{mg:Str->Option Value}{base:Heap}{Γ:Ct}{x qual:Str}{st:Stmt}{f:Addr}{fd:FuncData}{N ps:List Str}{k:Nat}{g:MG}(F:Fun K x qual st f fd)(S:aq N ps (ag st))(hN:0<N.length)
  (body:∀(cdv:Value)(A:Around)(outer:List PySem.Env)(s:Shared)(H:Hp)(E:XK),bN k (A.deeper (envOfC qual (ag st) s.heap.objs.size f cdv))->Fi (lP l3 P w K mg base N qual (ag st) f cdv A outer s H E).nox Γ (aR st) g):
  dQ P w K mg base l3 (k+1) f fd ps (KJ Γ (xE ps.length N.length g)):=by
 refine F.ok S (λvs H Q E ⟨a,xs,Hs,o,ho,ds,o',ev,sm,hs,hh,ro,rl,e,q,tb⟩=>?_) (λcdv A outer s H vs Q E hr ⟨a,xs,Hs,o,ho,ds,o',ev,sm,hs,hh,ro,rl,e,q,tb⟩=>?_)
 ·subst ev;unfold xE at e;obtain⟨h1,_⟩:ds.length+1=ps.length/\True:=by
   by_cases z:ds.length+1=ps.length
   ·exact⟨z,trivial⟩
   ·rw[if_neg z] at e;cases e
  rw[length_cons,←rl.length,h1]
 ·subst ev;unfold xE at e;by_cases z:ds.length+1=ps.length
  ·rw[if_pos z] at e;refine⟨tX Γ g,body cdv A outer s H E hr,a,Hs,Hs,Hs,_,o,ho,o',BA sm hN rl tb,hs,Bj _ _,?_,hs,hh,ro,e,q⟩;rfl
  ·rw[if_neg z] at e;cases e
structure dN(K:Frag)(cls:String->Addr)(m qual:Str)(st:Stmt)(ps:List Str)(cs:List String):Prop where
 ex:∃f fd,Fun K m qual st f fd/\gy K fd ps []/\∀c∈cs,jR K (cls c)/\Jg K (cls c) m f
structure dO(K:Frag)(mg:Str->Option Value)(cls:String->Addr)(c:String)(x qual:Str)(st:Stmt)(ps:List Str):Prop where
 ex:∃f fd,Fun K "__init__" qual st f fd/\gy K fd ps []/\Mk K (cls c) f/\findCls K (.ref (cls c)) (.type "type") "__init__" = some (.val (.ref f))
 at_:mg x=some (.ref (cls c))
 sp:specialIn K (.ref (cls c)) "__getattribute__" = some (some (.builtin "type.__getattribute__"))
 rd:readsIn K (cls c) (.type "type")=true
section
variable{P:Program}{w:World}{K:Frag}{mg:Str->Option Value}{base:Heap}{Γ:Ct}
theorem dt{x qual:Str}{st:Stmt}{N ps:List Str}{k:Nat}{g:MC}{cs:List String}(L:dN K Γ.cls x qual st ps cs)(S:aq N ps (ag st))
  (body:∀(f:Addr)(cdv:Value)(A:Around)(outer:List PySem.Env)(s:Shared)(H:Hp)(E:XK),bN k (A.deeper (envOfC qual (ag st) s.heap.objs.size f cdv))->l0 (lP l3 P w K mg base N qual (ag st) f cdv A outer s H E).nox Γ W0 (aR st) g):
  cy P w K mg base Γ (k+1) x ps (jl ps.length N.length g) cs:=by
 obtain⟨f,fd,F,hb,hc⟩:=L.ex;exact⟨f,fd,II F S (body f),hb,hc⟩
theorem du{x qual:Str}{c:String}{st:Stmt}{N ps:List Str}{k:Nat}{g:MG}(L:dO K mg Γ.cls c x qual st ps)(S:aq N ps (ag st))(hN:0<N.length)
  (body:∀(f:Addr)(cdv:Value)(A:Around)(outer:List PySem.Env)(s:Shared)(H:Hp)(E:XK),bN k (A.deeper (envOfC qual (ag st) s.heap.objs.size f cdv))->Fi (lP l3 P w K mg base N qual (ag st) f cdv A outer s H E).nox Γ (aR st) g):
  cz P w K mg base Γ (k+1) c x ps (xE ps.length N.length g):=by
 obtain⟨f,fd,F,hb,hm,hf⟩:=L.ex;exact⟨⟨f,fd,L7 F S hN (body f),hb,F.kp,hm,hf⟩,L.at_,L.sp,L.rd⟩
theorem Em{cls:String->Addr}{x qual:Str}{st:Stmt}{ps:List Str}{f:Addr}{oc:Value}{od an:Option Addr}{osl:Array (Option Value)}{kV doc pm cdv ct:Value}{cs:List String}
  (l:K.lookup f=some ⟨oc,od,.func (fnOf x qual (bR st) (aR st) (ag st) .none kV doc pm an cdv ct),osl⟩) (c:codeIn K cdv qual=true) (k:keepIn K (.ref f)=true) (i:isFn K (.ref f)=true)
  (hb:∀(kV doc pm:Value)(an:Option Addr)(cdv ct:Value)(us:List Value),us.length=ps.length->bindArgs (fnOf x qual (bR st) (aR st) (ag st) .none kV doc pm an cdv ct) ⟨us,[]⟩=pure (ps.zip us))
  (hc:∀c∈cs,jR K (cls c)/\findIn K (.ref (cls c)) x=some (some (.ref f))):dN K cls x qual st ps cs:=
 ⟨f,_,lJ l c k,(lJ l c k).binds hb,λc h=>⟨(hc c h).1,(hc c h).2,i,k⟩⟩
theorem Eo{h:Heap}(X:K.In h)(G:h.Ns mainGlobals mg){cls:String->Addr}{cn:String}{C:Addr}(ec:cls cn=C){x qual:Str}{st:Stmt}{ps:List Str}{f:Addr}{oc:Value}{od an:Option Addr}{osl:Array (Option Value)}{kV doc pm cdv ct:Value}
  (a:nsIn K mainGlobals x=some (some (.ref C))) (fi:findIn K (.ref C) "__init__" = some (some (.ref f)))
  (l:K.lookup f=some ⟨oc,od,.func (fnOf "__init__" qual (bR st) (aR st) (ag st) .none kV doc pm an cdv ct),osl⟩) (c:codeIn K cdv qual=true) (k:keepIn K (.ref f)=true) (i:isFn K (.ref f)=true)
  (mk:makesIn K C=true) (kc:keepIn K (.ref C)=true) (fc:findCls K (.ref C) (.type "type") "__init__" = some (.val (.ref f)))
  (sp:specialIn K (.ref C) "__getattribute__" = some (some (.builtin "type.__getattribute__"))) (rd:readsIn K C (.type "type")=true)
  (hb:∀(kV doc pm:Value)(an:Option Addr)(cdv ct:Value)(us:List Value),us.length=ps.length->bindArgs (fnOf "__init__" qual (bR st) (aR st) (ag st) .none kV doc pm an cdv ct) ⟨us,[]⟩=pure (ps.zip us)):dO K mg cls cn x qual st ps:=by
 subst ec;exact⟨⟨f,_,lJ l c k,(lJ l c k).binds hb,⟨mk,fi,i,kc⟩,fc⟩,mg_of X G a,sp,rd⟩
end
theorem dk{α:Type}{p:α->Prop}:∀c∈([]:List α),p c:=λ_ h=>nomatch h
theorem all_cons{α:Type}{p:α->Prop}{a:α}{l:List α}(h:p a)(t:∀c∈l,p c):∀c∈a::l,p c:=λc hc=>by
 rcases mem_cons.mp hc with rfl|h'
 ·exact h
 ·exact t c h'
def clsF:List (String×Addr)->String->Addr
 |[],_=>0
 | (c,a)::r,s=>if s=c then a else clsF r s
section
variable{X:Cx}{Γ:Ct}{W:XW}
theorem wA:iU X (binaryOp .Mult) (rD Γ W tU):=λpins s σ H x y v u Q I rx ry ⟨Hs,d1,d2,r,sm,r1,r2,e,q⟩=>by
 cases d1 with
 |str z=>
  cases d2 with
  |int n=>
   have e':(if z.length=1/\(n=1\/n=2) then okD (.str (if n=1 then z else⟨z.cps++z.cps⟩)) else none)=some r:=e;by_cases hc:z.length=1/\(n=1\/n=2)
   ·rw[if_pos hc] at e';cases e';obtain rfl:=bW.mp r1;obtain rfl:=ai.mp r2;obtain⟨t,rfl⟩:=rx;obtain⟨t',rfl⟩:=ry;have fin:∀(z':Str)(s':Shared)(tk:Tok),z'=(if n=1 then z else⟨z.cps++z.cps⟩)->aC X pins σ H s'->EP X pins σ Q (.str z' tk) s':=λz' s' tk hz I'=>by subst hz;exact⟨.str _,H,I',⟨tk,rfl⟩,gq sm q (bW.mpr rfl)⟩
    rcases hc.2 with rfl|rfl
    ·exact P.mul_str (by decide) (λ_ h=>absurd h (by simp)) (λ_ h=>absurd h (by simp)) (by
      rw[if_neg (by decide),if_pos (by simp)]
      exact fin z s t rfl I)
    ·refine P.mul_str (by decide) (λ_ _=>by rw[hc.1];decide) (λ_ _=>by rw[hc.1];decide) ?_
     rw[if_neg (by decide),if_neg (by rw[hc.1];decide)]
     refine⟨?_,fin _ _ _ ?_ (I.tok _)⟩
     ·have h1:z.cps.size=1:=hc.1;have h2:(List.foldl (λx1 x2:Array Nat=>x1++x2) #[] [z.cps,z.cps]).size=2:=by simp[h1]
      exact le_trans (le_of_eq h2) (by decide)
     ·show(⟨List.foldl (·++·) #[] [z.cps,z.cps]⟩:Str)=_;simp
   ·rw[if_neg hc] at e';cases e'
  |non=>cases e
  |bl _=>cases e
  |str _=>cases e
  |tup _=>cases e
  |lst _=>cases e
  |fn _ _=>cases e
  |obj _ _ _=>cases e
 |_=>cases e
end
section
variable{X:Cx}{Γ:Ct}{W:XW}{es:List Expr}{gs:List ME}{g:ME}{pos:Pos}
theorem cU{c j}(h:PD X Γ W (.Constant c j pos) g)(t:oo X Γ W es gs):oo X Γ W (.Constant c j pos::es) (g::gs):=cM h t rfl
theorem padN{x}(h:PD X Γ W (.Name x pos) g)(t:oo X Γ W es gs):oo X Γ W (.Name x pos::es) (g::gs):=cM h t rfl
theorem cV{a op b}(h:PD X Γ W (.BinOp a op b pos) g)(t:oo X Γ W es gs):oo X Γ W (.BinOp a op b pos::es) (g::gs):=cM h t rfl
theorem c6{a b}(h:PD X Γ W (.Subscript a b pos) g)(t:oo X Γ W es gs):oo X Γ W (.Subscript a b pos::es) (g::gs):=cM h t rfl
theorem iJ{f as ks}(h:PD X Γ W (.Call f as ks pos) g)(t:oo X Γ W es gs):oo X Γ W (.Call f as ks pos::es) (g::gs):=cM h t rfl
theorem j7{xs c}(h:PD X Γ W (.Tuple xs c pos) g)(t:oo X Γ W es gs):oo X Γ W (.Tuple xs c pos::es) (g::gs):=cM h t rfl
theorem KS{op a}(h:PD X Γ W (.UnaryOp op a pos) g)(t:oo X Γ W es gs):oo X Γ W (.UnaryOp op a pos::es) (g::gs):=cM h t rfl
end
def vB:PySem.Expr->Option D
 |.Constant (.str s) _ _=>some (.str s)
 |.Constant (.int i) _ _=>some (.int i)
 |_=>none
def Gr:List PySem.Expr->Option (List D)
 |[]=>some []
 |e::es=>match vB e,Gr es with
  |some d,some ds=>some (d::ds)
  |_,_=>none
theorem DT{X:Cx}{Γ:Ct}{W:XW}{e:PySem.Expr}{d:D}(h:vB e=some d):PD X Γ W e (eC d)/\∀es:List PySem.Expr,starEach (e::es) X.env=(false,eval e X.env)::starEach es X.env:=by
 unfold vB at h;split at h
 ·cases h;exact⟨c5,λ_=>rfl⟩
 ·cases h;exact⟨aa,λ_=>rfl⟩
 ·cases h
theorem mQ{X:Cx}{Γ:Ct}{W:XW}:∀{es:List PySem.Expr}{ds:List D},Gr es=some ds->oo X Γ W es (ds.map eC)
 |[],ds,h=>by cases h;exact a7
 |e::es,ds,h=>by
  unfold Gr at h;cases h1:vB e with
  |none=>rw[h1] at h;cases h
  |some d=>
   cases h2:Gr es with
   |none=>rw[h1,h2] at h;cases h
   |some ds'=>
    rw[h1,h2] at h;cases h;obtain⟨p,st⟩:=DT (X:=X) (Γ:=Γ) (W:=W) h1;exact cM p (mQ h2) (st es)
section
variable{X:Cx}{Γ:Ct}{W:XW}
theorem fG{i:Nat}{x:Str}{pos' pos:Pos}{e:Expr}{ge:ME}(hN:X.N.Nodup)(hi:X.N[i]?=some x)(he:PD X Γ W e ge)(hx:yd X.env.scope x:=by first|exact Or.inl rfl|exact Or.inr rfl)(hs:swapsWith e (some (.Name x pos')) pos.line X.env=pure false:=by rfl)
  (hf:X.fn x=true\/X.env.scope.names.lookup x=some .local:=by first|exact .inl rfl|exact .inr rfl|assumption):sJ X Γ W (.Assign [.Name x pos'] e pos) (aL i ge):=FG hN hi hx he hs hf
theorem t6{j:Nat}{x:Str}{pos:Pos}(hN:X.N.Nodup)(hi:X.N[j]?=some x)(hx:yd X.env.scope x:=by first|exact Or.inl rfl|exact Or.inr rfl)(hf:X.fn x=true\/X.env.scope.names.lookup x=some .local:=by first|exact .inl rfl|exact .inr rfl|assumption):Hi X Γ (.Name x pos) [j] (aW j):=DV hN hi hx hf
end
end L3
namespace L3
open PySem PySem.Spec PyProof.Rows L2 PySem.SeqAt
section
variable{X:Cx}{Γ:Ct}{W:XW}{pins:List (Addr×Obj)}{σ:L2.St}{H:Hp}{s:Shared}
theorem oH(n:Nat)(ih:∀(d1 d2:D)(b:Bool)(v:V),sD n d1 d2=some b->Rep Γ H d1 v->Rep Γ H d2 v->b=true):∀(xs ys:List D)(vs:List V)(b:Bool),kl (sD n) xs ys=some b->RepL Γ H xs vs->RepL Γ H ys vs->b=true
 |[],[],vs,b,h,_,_=>by cases h;rfl
 |[],y::ys,vs,b,h,r1,r2=>by
  obtain⟨z,r,e,_,_⟩:=aZ.mp r2;rw[dI.mp r1] at e;cases e
 |x::xs,[],vs,b,h,r1,r2=>by
  obtain⟨z,r,e,_,_⟩:=aZ.mp r1;rw[dI.mp r2] at e;cases e
 |x::xs,y::ys,vs,b,h,r1,r2=>by
  obtain⟨z,r,e,p1,t1⟩:=aZ.mp r1;obtain⟨z',r',e',p2,t2⟩:=aZ.mp r2;rw[e] at e';cases e';have h:(sD n x y).bind (λb=>(kl (sD n) xs ys).bind λc=>some (b && c))=some b:=h;cases h1:sD n x y with
  |none=>rw[h1] at h;cases h
  |some b1=>
   rw[h1] at h;cases h2:kl (sD n) xs ys with
   |none=>rw[h2] at h;cases h
   |some b2=>
    rw[h2] at h;cases h;rw[ih x y b1 z h1 p1 p2,oH n ih xs ys r b2 h2 t1 t2];rfl
theorem qY(hK:X.K=Γ.K)(I:aC X pins σ H s):∀(n:Nat)(d1 d2:D)(b:Bool)(v:V),sD n d1 d2=some b->Rep Γ H d1 v->Rep Γ H d2 v->b=true
 |0,_,_,_,_,h,_,_=>by cases h
 |n+1,d1,d2,b,v,h,r1,r2=>by
  have ih:=qY hK I n;cases d1 with
  |int i=>
   cases d2 with
   |int j=>
    cases h;have:=(ai.mp r1).symm.trans (ai.mp r2);cases this;exact beq_self_eq_true _
   |_=>cases h
  |str x=>
   cases d2 with
   |str y=>
    cases h;have:=(bW.mp r1).symm.trans (bW.mp r2);cases this;exact beq_self_eq_true _
   |_=>cases h
  |tup xs=>
   cases d2 with
   |tup ys=>
    obtain⟨a,vs,rfl,q1,l1⟩:=bF.mp r1;obtain⟨a',ws,e,q2,l2⟩:=bF.mp r2;cases e;have e:=I.seqX_inj (b:=false) (show A8 X.K H false a vs by rw[hK];exact q1) (show A8 X.K H false a ws by rw[hK];exact q2)
    subst e;exact oH n ih xs ys vs b h l1 l2
   |_=>cases h
  |lst xs=>
   cases d2 with
   |lst ys=>
    obtain⟨a,vs,rfl,q1,l1⟩:=bH.mp r1;obtain⟨a',ws,e,q2,l2⟩:=bH.mp r2;cases e;have e:=I.seqX_inj (b:=true) (show A8 X.K H true a vs by rw[hK];exact q1) (show A8 X.K H true a ws by rw[hK];exact q2)
    subst e;have h:(if xs.length=ys.length then kl (sD n) xs ys else some false)=some b:=h;rw[if_pos (l1.length.trans l2.length.symm)] at h;exact oH n ih xs ys vs b h l1 l2
   |_=>cases h
  |_=>cases d2 <;> cases h
theorem mX(n:Nat){A:Around}(ih:∀(d1 d2:D)(b:Bool)(x y:V)(v u:Value),sD n d1 d2=some b->Rep Γ H d1 x->Rep Γ H d2 y->RelV x v->RelV y u->EqAt A s v u b){xs ys:List D}{vs ws:List V}{its its2:List Value}{b:Bool}(h:kl (sD n) xs ys=some b)(l1:RepL Γ H xs vs)(l2:RepL Γ H ys ws)(r1:Vals vs its)(r2:Vals ws its2):
  ∀j (h1:j<its.toArray.size) (h2:j<its2.toArray.size),EqAt A s its.toArray[j] its2.toArray[j] (((xs[j]?).bind λx=>(ys[j]?).bind λy=>sD n x y) == some true):=by
 intro j h1 h2;have e1:=l1.length;have e2:=l2.length;have e3:=r1.length;have e4:=r2.length;rw[size_toArray] at h1 h2;have hx:xs[j]?=some xs[j]:=getElem?_eq_getElem (by omega)
 have hy:ys[j]?=some ys[j]:=getElem?_eq_getElem (by omega)
 obtain⟨c,hc⟩:=AI _ xs ys b h j _ _ hx hy;obtain⟨x,ex,rx⟩:=l1.get hx;obtain⟨y,ey,ry⟩:=l2.get hy;obtain⟨v,ev,rv⟩:=r1.get ex;obtain⟨u,eu,ru⟩:=r2.get ey;have ev':its[j]=v:=by rw[getElem?_eq_getElem h1] at ev;exact Option.some.inj ev
 have eu':its2[j]=u:=by rw[getElem?_eq_getElem h2] at eu;exact Option.some.inj eu
 rw[hx,hy];show EqAt A s its[j] its2[j] (sD n xs[j] ys[j] == some true);rw[hc,ev',eu',show(some c == some true)=c by cases c <;> rfl]
 exact ih _ _ c x y v u hc rx ry rv ru
theorem xM(hK:X.K=Γ.K)(I:aC X pins σ H s):∀(n:Nat)(A:Around),A.units+n<cLine->∀(d1 d2:D)(b:Bool)(x y:V)(v u:Value),sD n d1 d2=some b->Rep Γ H d1 x->Rep Γ H d2 y->RelV x v->RelV y u->EqAt A s v u b
 |0,_,_,_,_,_,_,_,_,_,h,_,_,_,_=>by cases h
 |n+1,A,hu,d1,d2,b,x,y,v,u,h,r1,r2,rx,ry=>by
  have ih:=xM hK I n A.in1 (by show A.units+1+n<cLine;omega)
  cases d1 with
  |int i=>
   cases d2 with
   |int j=>
    cases h;rw[ai.mp r1] at rx;rw[ai.mp r2] at ry;obtain⟨t,rfl⟩:=rx;obtain⟨t',rfl⟩:=ry;exact EqAt.int_int i t j t'
   |_=>cases h
  |str z=>
   cases d2 with
   |str z'=>
    cases h;rw[bW.mp r1] at rx;rw[bW.mp r2] at ry;obtain⟨t,rfl⟩:=rx;obtain⟨t',rfl⟩:=ry;exact EqAt.str_str z t z' t'
   |_=>cases h
  |tup xs=>
   cases d2 with
   |tup ys=>
    obtain⟨a,vs,rfl,q1,l1⟩:=bF.mp r1;obtain⟨a',ws,rfl,q2,l2⟩:=bF.mp r2;cases rx;cases ry;by_cases c:a=a'
    ·subst c;rw[qY hK I (n+1) (.tup xs) (.tup ys) b (.ref a) h r1 r2];exact EqAt.same _
    ·obtain⟨its,v1,p1,_⟩:=I.tuple (by rw[hK];exact q1)
     obtain⟨its2,v2,p2,_⟩:=I.tuple (by rw[hK];exact q2)
     have e:=RcAt.tuples p1 p2 (A:=A) (by omega) (mX n ih h l1 l2 v1 v2)
     rw[size_toArray,size_toArray,←v1.length,←v2.length,←l1.length,←l2.length,←nY _ xs ys b h] at e;exact EqAt.of_refs c e
   |_=>cases h
  |lst xs=>
   cases d2 with
   |lst ys=>
    obtain⟨a,vs,rfl,q1,l1⟩:=bH.mp r1;obtain⟨a',ws,rfl,q2,l2⟩:=bH.mp r2;cases rx;cases ry;by_cases c:a=a'
    ·subst c;rw[qY hK I (n+1) (.lst xs) (.lst ys) b (.ref a) h r1 r2];exact EqAt.same _
    ·obtain⟨its,v1,p1,_⟩:=I.list (by rw[hK];exact q1)
     obtain⟨its2,v2,p2,_⟩:=I.list (by rw[hK];exact q2)
     have h:(if xs.length=ys.length then kl (sD n) xs ys else some false)=some b:=h;have s1:its.toArray.size=xs.length:=by rw[size_toArray,←v1.length,←l1.length]
     have s2:its2.toArray.size=ys.length:=by rw[size_toArray,←v2.length,←l2.length]
     by_cases hl:xs.length=ys.length
     ·rw[if_pos hl] at h;have e:=RcAt.lists p1.isList p2.isList (A:=A) (by rw[s1,s2,hl]) (by omega) (mX n ih h l1 l2 v1 v2)
      have ea:=nY _ xs ys b h;rw[hl,Nat.min_self,beq_self_eq_true,Bool.and_true] at ea;rw[s1,hl,←ea] at e;exact EqAt.of_refs c e
     ·rw[if_neg hl] at h;cases h;exact EqAt.of_refs c (RcAt.lists_lengths p1.isList p2.isList (by rw[s1,s2];simpa using hl) (by omega))
   |_=>cases h
  |_=>cases d2 <;> cases h
end
section
variable{X:Cx}{Γ:Ct}{W:XW}
theorem IE{A:Around}{k n:Nat}(hr:bN k A)(hn:n<=9:=by decide):A.units+n<cLine:=by
 have:=hr.un;omega
variable{i:Nat}{x:Str}{px apos cpos pos:Pos}
end
end L3
namespace L3
open PySem PySem.Spec PyProof.Rows L2
section
variable{X:Cx}{Γ:Ct}{W:XW}
inductive tK(Γ:Ct)(g:ME)(σ:L2.St)(H:Hp)(Q:VK):Prop
 |mk (B0 B1 Hs:Hp) (ρ:MEnv) (ks:List Int) (re:RE Γ B0 B1 Hs H σ ρ) (e:g ρ=okD (.tup (ks.map D.int))) (q:∀b H',Same H H'->H' b=some (.tup (ks.map V.int))->Q (.ref b) H')
abbrev PK(X:Cx)(Γ:Ct)(e:Expr)(g:ME):Prop:=PE X e (tK Γ g)
theorem qp{es:List Expr}{gs:List ME}{x1}{pos:Pos}(ha:oo X Γ W es gs):PK X Γ (.Tuple es x1 pos) (aD gs):=PE.imp (DM ha) λ_ _ σ H Q _ ⟨B0,B1,Hs,ρ,ks,re,e,q⟩=>by
 refine cL gs (λvs H1 ⟨Hs1,ds,g1,re1,rp,e1,_⟩=>?_) (kr (W:=W) (Q:=λ_ _=>True) gs re e (λ_ _ _ _ _=>trivial))
 try dsimp only at e1
 split at e1
 ·rename_i hl;cases e1;refine⟨by rw[←rp.length];exact le_trans hl (by decide),λp hp=>q p _ (g1.h.trans (aX hp)) ?_⟩
  rw[aB,rp.intsOf (show intsOf (ks.map D.int)=some ks from kO ks)]
 ·cases e1
theorem pN:∀{a b:List Int},a.map (Sum.inl:Int->Key)=b.map Sum.inl->a=b
 |[],[],_=>rfl
 |[],_::_,h=>nomatch h
 |_::_,[],h=>nomatch h
 |x::a,y::b,h=>by
  rw[map_cons,map_cons] at h;injection h with h1 h2;injection h1 with h1;rw[h1,pN h2]
theorem ub(ks:List Int):∀kvs:Tb,ow (zE kvs) (ks.map Sum.inl)=(c7 kvs ks).map V.int
 |[]=>rfl
 |p::r=>by
  have ih:=ub ks r;by_cases h:p.1=ks
  ·have:(p.1.map (Sum.inl:Int->Key))=ks.map Sum.inl:=by rw[h]
   rw[show zE (p::r)=(p.1.map Sum.inl,V.int p.2)::zE r from rfl,nq (p:=(p.1.map Sum.inl,V.int p.2)) this];unfold c7;rw[find?_cons,decide_eq_true h];rfl
  ·have:¬(p.1.map (Sum.inl:Int->Key))=ks.map Sum.inl:=λz=>h (pN z);rw[show zE (p::r)=(p.1.map Sum.inl,V.int p.2)::zE r from rfl,nr (p:=(p.1.map Sum.inl,V.int p.2)) this,ih];unfold c7;rw[find?_cons,decide_eq_false h]
theorem B2(ks:List Int):∀kvs:Tb,((zE kvs).any λkv=>decide (kv.1=ks.map Sum.inl))=kvs.any λp=>decide (p.1=ks)
 |[]=>rfl
 |p::r=>by
  have ih:=B2 ks r;rw[show zE (p::r)=(p.1.map Sum.inl,V.int p.2)::zE r from rfl,any_cons,any_cons,ih];congr 1;exact decide_eq_decide.mpr ⟨λz=>pN z,λz=>by rw[z]⟩
theorem FD(kvs:Tb)(ks:List Int)(v:Int):nK (zE kvs) (ks.map Sum.inl) (V.int v)=zE (yE kvs ks v):=by
 unfold nK yE;rw[B2];split
 ·unfold zE;rw[map_map,map_map];refine map_congr_left λp _=>?_;show(if p.1.map (Sum.inl:Int->Key)=ks.map Sum.inl then(p.1.map Sum.inl,V.int v) else(p.1.map Sum.inl,V.int p.2))=((if p.1=ks then(p.1,v) else p).1.map Sum.inl,V.int (if p.1=ks then(p.1,v) else p).2);by_cases h:p.1=ks
  ·rw[if_pos h,if_pos (by rw[h])]
  ·rw[if_neg h,if_neg (λz=>h (pN z))]
 ·unfold zE;rw[map_append];rfl
theorem zF(ks:List Int):(ks.map (Sum.inl:Int->Key)).map kV=ks.map V.int:=by rw[map_map];rfl
variable{i:Nat}{x:Str}{px apos cpos pos pos' zpos:Pos}{k:Expr}{gk:ME}
theorem DE(hN:X.N.Nodup)(hi:X.N[i]?=some x)(hx:yd X.env.scope x)(hs:swapsWith (.Dict [] [] zpos) (some (.Name x pos')) pos.line X.env=pure false:=by rfl)
  (hf:X.fn x=true\/X.env.scope.names.lookup x=some .local:=by first|exact .inl rfl|exact .inr rfl|assumption):sJ X Γ W (.Assign [.Name x pos'] (.Dict [] [] zpos) pos) (GM i):=
 PS.imp (yI hN hi hx DR hs hf) λpins s σ H En I ⟨B0,B1,Hs,ρ,o,re,eo,q⟩=>by
  cases eo;intro p hp;refine q _ Hs _ (.refl _) ((re.grow (.newOwn re.b.i hp)).setOwn (by rw[I.len];exact(List.getElem?_eq_some_iff.mp hi).1) (re.b.h.free hp) (re.b.i.free hp) aB rfl λj u _ hj z=>?_)
  obtain⟨c,hc,f1,_,_,f4,_⟩:=re.own j u hj;rw[z] at f1;cases f1;rw[hp] at f4;cases f4
end
end L3
namespace L3
open PySem PySem.Spec PyProof.Rows L2 PySem.W
def Kv(L:lS)(H:Hp)(a:Addr)(xs:List V):Prop:=
 ∃(cs:List Addr)(pm:Value)(c:Addr)(ctv:Value),H a=some (.frz (L.obj (L.fv.zip cs) pm c ctv) (.fnc c L.qual))/\fe H cs xs/\cs.Nodup/\cs.length=L.fv.length
theorem Kv.mono{L:lS}{H H':Hp}{a:Addr}{xs:List V}(s:Same H H')(h:Kv L H a xs):Kv L H' a xs:=by
 obtain⟨cs,pm,c,ctv,e,r,q⟩:=h;exact⟨cs,pm,c,ctv,s _ _ e,r.mono s,q⟩
def Lo(K:Frag)(cls:String->Addr)(lams:Nat->Option lS)(P:Addr)(good:Pos->Option Str):Ct:=
 ⟨K,cls,λk H a xs=>(k=I0/\xs=[])\/∃L,lams k=some L/\Kv L H a xs,λs h=>h.imp id λ⟨L,e,h⟩=>⟨L,e,h.mono s⟩,λb=>if b=P then some (.tab good) else none,λ_ _=>.inl ⟨rfl,rfl⟩⟩
mutual
theorem Rep.to{Γ:Ct}{H H':Hp}(k:∀b u,H b=some u->(∀o c,u≠.frz o (.own c))->H' b=some u):∀{d:D}{v:V},zc d=true->Rep Γ H d v->Rep Γ H' d v
 |.non,_,_,r=>by unfold Rep at r ⊢;exact r
 |.bl _,_,_,r=>by unfold Rep at r ⊢;exact r
 |.int _,_,_,r=>by unfold Rep at r ⊢;exact r
 |.str _,_,_,r=>by unfold Rep at r ⊢;exact r
 |.tup ds,_,n,r=>by
  unfold Rep at r ⊢;obtain⟨a,xs,e1,q,r⟩:=r;refine⟨a,xs,e1,?_,RepL.to k (by unfold zc at n;exact n) r⟩
  rcases q with(q|⟨o,q⟩)|q
  ·exact .inl (.inl (k _ _ q λ_ _ z=>nomatch z))
  ·exact .inl (.inr ⟨o,k _ _ q λ_ _ z=>by cases z⟩)
  ·exact .inr q
 |.lst ds,_,n,r=>by
  unfold Rep at r ⊢;obtain⟨a,xs,e1,q,r⟩:=r;refine⟨a,xs,e1,?_,RepL.to k (by unfold zc at n;exact n) r⟩
  rcases q with(q|⟨o,q⟩)|q
  ·exact .inl (.inl (k _ _ q λ_ _ z=>nomatch z))
  ·exact .inl (.inr ⟨o,k _ _ q λ_ _ z=>by cases z⟩)
  ·exact .inr q
 |.obj c ns ds,_,n,r=>by
  unfold Rep at r ⊢;obtain⟨a,dx,xs,e1,q,r⟩:=r;exact⟨a,dx,xs,e1,k _ _ q (λ_ _ z=>nomatch z),RepL.to k (by unfold zc at n;exact n) r⟩
 |.fn _ _,_,n,_=>by unfold zc at n;cases n
theorem RepL.to{Γ:Ct}{H H':Hp}(k:∀b u,H b=some u->(∀o c,u≠.frz o (.own c))->H' b=some u):∀{ds:List D}{xs:List V},qM ds=true->RepL Γ H ds xs->RepL Γ H' ds xs
 |[],_,_,r=>by unfold RepL at r ⊢;exact r
 |d::ds,_,n,r=>by
  unfold RepL at r ⊢;unfold qM at n;rw[Bool.and_eq_true] at n;obtain⟨x,r',e1,q,r2⟩:=r;exact⟨x,r',e1,Rep.to k n.1 q,RepL.to k n.2 r2⟩
end
structure Fj(P:Program)(w:World)(K:Frag)(mg:Str->Option Value)(base:Heap)(Γ:Ct)(j k:Nat)(F:List D->Option R):Prop where
 fn:∀H a xs,Γ.clo k H a xs->∃fd u,H a=some (.frz {cls:=.type "function",data:=.func fd} u)
 run:∀(A:Around)(outer:List PySem.Env)(s:Shared)(H Hs:Hp)(a:Addr)(xs:List V)(ds:List D)(v:V)(u:Value)(d:D)(r:S)(Q:VK),bN j A->lW P w K mg base A outer s H->Same Hs H->Same Γ.tb Hs->Γ.clo k Hs a xs->RepL Γ Hs ds xs->
  RelV v u->Rep Γ Hs d v->zc d=true->qM ds=true->F (d::ds)=some (.ok r)->flat r.val=true->(∀v' H',Same H H'->Rep Γ H' r.val v'->Q v' H')->codeAny (model P w) A (.call (.ref a) ⟨[u],[]⟩) (CR l3 outer P w H s Q E0) s
theorem Fj.mono{P:Program}{w:World}{K:Frag}{mg:Str->Option Value}{base:Heap}{Γ:Ct}{i j k:Nat}{F:List D->Option R}(h:Fj P w K mg base Γ i k F)(l:i<=j):Fj P w K mg base Γ j k F:=
 ⟨h.fn,λA outer s H Hs a xs ds v u d r Q hr=>h.run A outer s H Hs a xs ds v u d r Q (hr.mono l)⟩
def yo(K:Frag)(PT:Addr)(good:Pos->Option Str):Sp:=λvs H Q _=>
 ∃(a:Addr)(ns:List Int),vs=[.ref a]/\kY K H a (ns.map V.int)/\ns.length<=63/\H PT=some (.tab good)/\∀H',H' PT=some (.tab good)->Q (.bl true) H'
theorem Gb{P:Program}{w:World}{K:Frag}{mg:Str->Option Value}{base:Heap}{Γ:Ct}{k:Nat}{f PT:Addr}{good:Pos->Option Str}{fd:FuncData}{x:Str}{F:List D->Option R}(h:dQ P w K mg base l3 k f fd [x] (Fu Γ W0 F))(hK:Γ.K=K)(htb:Γ.tb=λb=>if b=PT then some (.tab good) else none)
  (T:∀ns:List Int,ns.length<=63->F [.lst (ns.map D.int)]=some (.ok (.sh (.bl true)))):dQ P w K mg base l3 k f fd [x] (yo K PT good):=
 h.imp λvs H Q E ⟨a,ns,ev,hS,hl,hP,q⟩=>by
  subst hK;subst ev;refine⟨H,[.lst (ns.map D.int)],_,.refl _,.cons (bH.mpr ⟨a,_,rfl,hS,RepL.ints ns⟩) .nil,T ns hl,λv Hs' H' g rs=>?_,λb o z=>?_⟩
  ·have rs':Rep Γ Hs' (.bl true) v:=rs;rw[cT.mp rs'];exact q H' (g.h _ _ hP)
  ·rw[htb] at z;have z':(if b=PT then some (HO.tab good) else none)=some o:=z;split at z'
   ·rename_i e;cases z';rw[e];exact hP
   ·cases z'
theorem Cy{P:Program}{w:World}{K:Frag}{mg mb:Str->Option Value}{k:Nat}{fa a cc PT:Addr}{good:Pos->Option Str}{fd:FuncData}{x:Str}{s₁:Shared}{vs:List Value}{ns:List Int}
  (KX:K.In s₁.heap) (hns:s₁.heap.Ns mainGlobals mg) (hb:s₁.heap.Ns builtinsNs mb) (hbb:∀x:Str,x ≠ "__name__" -> mb x=bootBuiltins x) (hlim:s₁.heap.NoLimit) (hg:s₁.gens=#[])
  (hC:CodeHd s₁.heap cc PT) (hT:s₁.heap.get? PT=some (tabObj #[])) (hB:ya mg s₁.heap) (hK0:noTabs K=true)
  (ha:s₁.heap.get? a=some {cls:=.type "list",data:=.seq vs.toArray}) (hi:IntsAre vs ns) (hl:ns.length<=63) (hr:bN k callerA)
  (F:∀base:Heap,CodeHd base cc PT->ya mg base->dQ P w K mg base l3 k fa fd [x] (yo K PT good)) (hbind:∀(s:Shared)(u:Value),BindsTo s fd ⟨[u],[]⟩ [(x,u)]):
  codeAny (model P w) callerA (.call (.ref fa) ⟨[.ref a],[]⟩) (λr s'=>r=.ok (.ret (.bool true))/\OldK s₁.heap s'.heap/\s'.os=s₁.os/\AllBare s'.gens) s₁:=by
 have rv:=ou hi;have lenV:=hi.length;have hl':ns.length<=sizeLine:=le_trans hl (by decide)
 have aP:a≠PT:=λz=>by rw[z,hT] at ha;cases ha
 have core:∀H:Hp,H PT=some (.tab good)->(∀b,b≠PT->H b≠none->b=a/\K.lookup a=none/\∃o xs,H b=some (.frz o (.lst xs)))->kY K H a (ns.map V.int)->lV P w H s₁.heap->
   codeAny (model P w) callerA (.call (.ref fa) ⟨[.ref a],[]⟩) (λr s'=>r=.ok (.ret (.bool true))/\OldK s₁.heap s'.heap/\s'.os=s₁.os/\AllBare s'.gens) s₁:=by
  intro H hP hA hS hok;have keep:∀{b:Addr}{o:Obj},s₁.heap.get? b=some o->o≠tabObj #[]->(b=a->K.lookup a=none->False)->(lI s₁.heap H).get? b=some o:=λ{b o} e n1 n2=>xo e (by
   cases q:H b with
   |none=>rfl
   |some u=>
    by_cases hbP:b=PT
    ·subst hbP;rw[hT] at e;cases e;exact absurd rfl n1
    ·obtain⟨z1,z2,_⟩:=hA b hbP (by rw[q];simp)
     exact(n2 z1 z2).elim)
  have keepD:∀{b:Addr}{o:Obj},s₁.heap.get? b=some o->o≠tabObj #[]->o.cls≠.type "list" -> (lI s₁.heap H).get? b=some o:=λ{b o} e n1 n2=>keep e n1 λz _=>by
   subst z;rw[ha] at e;cases e;exact n2 rfl
  have nsK:∀{b:Addr}{m:Str->Option Value},s₁.heap.Ns b m->(lI s₁.heap H).Ns b m:=λ{b m} ⟨o,es,ep,e,d,r⟩=>⟨o,es,ep,keep e (λz=>by rw[z] at d;cases d) (λz _=>by
   subst z;rw[ha] at e;cases e;cases d),d,r⟩
  have hKb:K.In (lI s₁.heap H):=λb o e=>keep (KX b o e) (λz=>by
   have h2:=all_eq_true.mp hK0 (b,o) (mem_of_lookupK e);subst z;exact absurd (show false=true from h2) Bool.false_ne_true) λz1 z2=>by subst z1;rw[z2] at e;cases e
  have hM:Mod K mg (lI s₁.heap H):=⟨hKb,nsK hns,⟨mb,nsK hb,hbb⟩,let ⟨mc,h1,h2⟩:=hlim;⟨mc,nsK h1,h2⟩⟩;have hC':CodeHd (lI s₁.heap H) cc PT:=by
   obtain⟨o,vs',file,tf,flags,tg,inF,text,tt,e1,r1,r2⟩:=hC;exact⟨o,vs',file,tf,flags,tg,inF,text,tt,keepD e1 (λz=>by rw[z] at r1;cases r1) (λz=>by rw[r1] at z;exact absurd z (by decide)),r1,r2⟩
  have hB':ya mg (lI s₁.heap H):=by
   obtain⟨bm,o,b1,b2,b3,b4,b5,b6⟩:=hB;exact⟨bm,o,b1,b2,b3,keepD b4 (λz=>by rw[z] at b5;cases b5) (λz=>by rw[b5] at z;exact absurd z (by decide)),b5,b6⟩
  have e0:lW P w K mg (lI s₁.heap H) callerA [] s₁ H:=⟨rfl,hM,λb o e=>Ax e,le_of_eq (tG _ _),trivial,λb hb=>absurd (show b∈([]:List Addr) from hb) (by simp),hok,.of_eq hg⟩
  refine codeAny_mono ((F _ hC' hB').run callerA [] s₁ H ⟨[.ref a],[]⟩ [.ref a] [.ref a] (λv H'=>v=.bl true/\H' PT=some (.tab good)) (λ_ _ _=>False) hr e0 (hbind s₁ (.ref a)) (.cons rfl .nil) ⟨a,ns,rfl,hS,hl,hP,λH' z=>⟨rfl,z⟩⟩) λr s' h=>?_;cases r with
  |error e=>exact False.elim h
  |ok fl=>
   cases fl with
   |next=>exact False.elim h
   |brk=>exact False.elim h
   |cont=>exact False.elim h
   |ret u=>
    obtain⟨v,H',os,bare,un,hok',r',ev,hP'⟩:=h;subst ev;obtain rfl:u=Value.bool true:=r';obtain⟨ps,eps,_⟩:=hok' PT _ hP';have old:∀b o,b≠PT->s₁.heap.get? b=some o->s'.heap.get? b=some o:=λb o hb e=>by
     cases q:H b with
     |none=>exact un.keep b o e q (by intro z;exact absurd (show b∈([]:List Addr) from z) (by simp)) (by simp)
     |some u=>
      obtain⟨_,_,ob,xs,z⟩:=hA b hb (by rw[q];simp)
      have z2:=un.frzs b ob _ z;obtain⟨e1,_⟩:=hok b _ z;obtain⟨e2,_⟩:=hok' b _ z2;rw[e] at e1;cases e1;exact e2
    refine⟨rfl,⟨λb o e=>?_,λb o e=>?_⟩,os,bare⟩
    ·by_cases hb:b=PT
     ·subst hb;rw[hT] at e;cases e;exact .inr (.inl ⟨(hC.tab hT).isCodeTable,rfl,#[],ps,rfl,by rw[Array.empty_append];exact eps⟩)
     ·exact .inl (old b o hb e)
    ·by_cases hb:b=PT
     ·subst hb;exact⟨_,eps⟩
     ·exact⟨o,old b o hb e⟩
 have okT:∀H:Hp,ck P w H s₁.heap PT (.tab good):=λH=>⟨#[],hT,True.intro,λp cv _ hc=>by cases hc⟩
 cases hk:K.lookup a with
 |some o=>
  have e:=KX a o hk;rw[ha] at e;cases e;refine core (λb=>if b=PT then some (.tab good) else none) (if_pos rfl) (λb hb z=>absurd (if_neg hb) z) (.inr ⟨_,vs.toArray,_,hk,rfl,rfl,rfl,by rw[size_toArray,lenV];exact hl',by simpa using rv⟩) λb u z=>?_
  have z':(if b=PT then some (HO.tab good) else none)=some u:=z;split at z'
  ·rename_i e;subst e;cases z';exact okT _
  ·cases z'
 |none=>
  refine core (λb=>if b=PT then some (.tab good) else if b=a then some (.frz {cls:=.type "list",data:=.seq vs.toArray} (.lst (ns.map V.int))) else none) (if_pos rfl) (λb hb z=>?_) (.inl (.inr ⟨{cls:=.type "list",data:=.seq vs.toArray},(if_neg aP).trans (if_pos rfl)⟩)) λb u z=>?_
  ·have z':(if b=PT then some (HO.tab good) else if b=a then some (.frz {cls:=.type "list",data:=.seq vs.toArray} (.lst (ns.map V.int))) else none)≠none:=z;rw[if_neg hb] at z';by_cases hba:b=a
   ·exact⟨hba,hk,_,_,(if_neg hb).trans (if_pos hba)⟩
   ·rw[if_neg hba] at z';exact absurd rfl z'
  ·have z':(if b=PT then some (HO.tab good) else if b=a then some (.frz {cls:=.type "list",data:=.seq vs.toArray} (.lst (ns.map V.int))) else none)=some u:=z;split at z'
   ·rename_i e;subst e;cases z';exact okT _
   ·split at z'
    ·rename_i e;subst e;cases z';exact⟨ha,by rw[length_map];exact hl',vs,_,rv,ha⟩
    ·cases z'
theorem Cw{l:PySem.W.OpenLaw}{q:Program}{loose:List Str}{XP:(Str->Option Value)->Heap->Prop}{YP:World->Heap->Prop}{d dP:DefRec}{K:Params->Frag}{k:Nat}{x y:Str}{cc PT:Addr}{good:Pos->Option Str}(hk:k<=60)(hn:l.most=some 63)(hdf:d.params.defaults=[])
  (hrec:(recsOf q).find? (λe=>e.name == y)=some dP) (htab:∀w:World,tabIn (K w.params) y=some (cc,PT)) (hno:∀w:World,noTabs (K w.params)=true)
  (hY:∀(w:World)(h:Heap),YP w h->(K w.params).In h)
  (F:∀(w:World)(mg:Str->Option Value)(fa:Addr)(h:Heap),(K w.params).In h->h.Ns mainGlobals mg->mg d.name=some (.ref fa)->
   ∃fd:FuncData,(∀(s:Shared)(u:Value),BindsTo s fd ⟨[u],[]⟩ [(x,u)])/\∀base:Heap,CodeHd base cc PT->ya mg base->dQ l.prog w (K w.params) mg base l3 k fa fd [x] (yo (K w.params) PT good)):
  PySem.W.WalkO q loose XP YP l.row.toRowW d [] (λf vs=>PySem.call f vs):=by
 refine Att.attach_call hn hdf λw s₀ s₁ mg mb fa o pm cd doc a vs ns G Y ho hd hcd hmg hobj hints hlen hg=>?_;have KX:=hY w _ Y;obtain⟨fd,hb,hF⟩:=F w mg fa _ KX G.T.g hmg;obtain⟨hC,hT⟩:=tab_of G.T KX hrec (htab w);obtain⟨bm,ob,b1,b2,b3,b4,b5,b6⟩:=G.T.bmain;have bG:bm≠mainGlobals:=λz=>by
  obtain⟨o',es,ep,e,hd',_⟩:=G.T.g;rw[z,e] at b3;cases b3;rw[hd'] at b6;cases b6
 exact Cy KX G.T.g G.T.b G.T.builtins G.T.nolimit hg hC hT ⟨bm,ob,b1,b2,bG,b3,b4,b5,b6⟩ (hno w) hobj hints hlen (bN.mono (k:=60) ⟨rfl,by decide,by decide⟩ hk) hF hb
end L3
namespace L3
open PySem PySem.Spec PyProof.Rows L2
end L3
namespace L3
open PySem PySem.Spec PyProof.Rows L2 PySem.W
def JZ(e:Expr)(qual par:Str)(fv:List Str):lS:=match e with
 |.Lambda p b sc _=>⟨p,b,sc,qual,par,fv⟩
 |_=>⟨{posonlyargs:=[],args:=[],vararg:=none,kwonlyargs:=[],kw_defaults:=[],kwarg:=none,defaults:=[]},e,{kind:=.function,names:=[],isGenerator:=false,isCoroutine:=false},qual,par,fv⟩
def zN(ls:List (Nat×Nat))(q:Str):Pos->Option Str:=λp=>if ls.contains (p.line,p.col) then some q else none
theorem CI{ls:List (Nat×Nat)}{q:Str}:vP (zN ls q):=λp p' h1 h2=>by unfold zN;rw[h1,h2]
theorem Ek{N:List Str}{L:lS}(kind:L.scope.kind=.function)(co:L.scope.isCoroutine=false)(gen:L.scope.isGenerator=false)(nd:N.Nodup)(pre:N.take (1+L.fv.length)=L.par::L.fv)(par:L.scope.names.lookup L.par=some .local\/L.scope.names.lookup L.par=some .cell)
  (fvs:∀y∈L.fv,L.scope.names.lookup y=some .free/\(y,NameKind.cell)∉L.scope.names) (all:∀p∈L.scope.names,p.2=.free->p.1∈L.fv):lT N L:=
 ⟨kind,co,gen,nd,pre,par,fvs,λy h=>all (y,.free) (PySem.mem_of_lookup h) rfl⟩
theorem IU{K:Frag}{cls:String->Addr}{lams:Nat->Option lS}{PT:Addr}{good:Pos->Option Str}:(Lo K cls lams PT good).tb PT=some (.tab good):=if_pos rfl
structure B5(K:Frag)(mg:Str->Option Value)(x:Str)(st:Stmt)(ps:List Str)(cc:Addr):Prop where
 ex:∃f fd,Fun K x x st f fd/\mg x=some (.ref f)/\gy K fd ps []/\fd.code=.ref cc
theorem Ep{K:Frag}{mg:Str->Option Value}{h:Heap}(X:K.In h)(G:h.Ns mainGlobals mg){x:Str}{st:Stmt}{ps:List Str}{f cc:Addr}{oc:Value}{od an:Option Addr}{osl:Array (Option Value)}{kV doc pm ct:Value}(a:nsIn K mainGlobals x=some (some (.ref f)))
  (l:K.lookup f=some ⟨oc,od,.func (fnOf x x (bR st) (aR st) (ag st) .none kV doc pm an (.ref cc) ct),osl⟩) (c:codeIn K (.ref cc) x=true) (k:keepIn K (.ref f)=true)
  (b:∀(kV doc pm:Value)(an:Option Addr)(cdv ct:Value)(us:List Value),us.length=ps.length->bindArgs (fnOf x x (bR st) (aR st) (ag st) .none kV doc pm an cdv ct) ⟨us,[]⟩=pure (ps.zip us)):B5 K mg x st ps cc:=
 ⟨_,_,lJ l c k,mg_of X G a,(lJ l c k).binds b,rfl⟩
end L3
namespace L3
open PySem PySem.Spec PyProof.Rows L2
section
variable{Γ:Ct}{B0 B1 Hs H Hs' H':Hp}{σ:L2.St}{ρ:MEnv}{a:Addr}{o o':O}{ho ho':HO}
theorem fP.core(h:fP Γ Hs a o ho):fP Γ Hs a o.core ho:=by
 cases o with
 |par b u=>exact h.2
 |_=>exact h
theorem fP.put(h:fP Γ Hs a o ho)(h':fP Γ Hs' a o' ho'):fP Γ Hs' a (o.put o') ho':=by
 cases o with
 |par b u=>exact⟨h.1,h'⟩
 |_=>exact h'
theorem RE.called(r:RE Γ B0 B1 Hs H σ ρ){i:Nat}(e:ρ[i]?=some (some (.own o)))(ea:σ[i]?=some (some (.ref a)))(g:jI a Hs H Hs' H')(hs:Hs' a=none)(hh:H' a=some ho')(q:fP Γ Hs' a o' ho'):RE Γ B0 B1 Hs' H' σ (ρ.set i (some (.own o'))):=by
 obtain⟨c,hc,e1,e2,e3,e4,_⟩:=r.own i o e;rw[ea] at e1;cases e1;have hi:i<ρ.length:=(List.getElem?_eq_some_iff.mp e).1;have old:∀(j:Nat)(u:O),(ρ.set i (some (.own o')))[j]?=some (some (.own u))->∃u',ρ[j]?=some (some (.own u')):=λj u hj=>by
  by_cases h:i=j
  ·subst h;exact⟨o,e⟩
  ·rw[getElem?_set_ne h] at hj;exact⟨u,hj⟩
 refine⟨⟨r.b.s.trans g.s,λb u z=>g.h b u (aG z e2) (r.b.h b u z),g.i,λb u z=>?_⟩,λj d hj=>?_,λj u hj=>?_,λj k u u' c hjk hj hk ha=>?_,by rw[length_set,r.len],r.tb.trans g.s⟩
 ·rcases g.n b u z with z|z
  ·exact r.b.n b u z
  ·exact .inr (r.b.h.free z)
 ·by_cases h:i=j
  ·subst h;rw[getElem?_set_self hi] at hj;cases hj
  ·rw[getElem?_set_ne h] at hj;obtain⟨v,f1,f2⟩:=r.sh j d hj;exact⟨v,f1,f2.mono g.s⟩
 ·by_cases h:i=j
  ·subst h;rw[getElem?_set_self hi] at hj;cases hj;exact⟨a,ho',ea,e2,hs,hh,q⟩
  ·rw[getElem?_set_ne h] at hj;obtain⟨c,hc,f1,f2,f3,f4,f5⟩:=r.own j u hj;have hne:c≠a:=λz=>by subst z;exact r.apart i j o u c h e hj ea f1
   refine⟨c,hc,f1,f2,?_,g.h c hc hne f4,f5.mono g.s⟩;cases z:Hs' c with
   |none=>rfl
   |some w=>
    rcases g.n c w z with z'|z'
    ·rw[f3] at z';cases z'
    ·rw[f4] at z';cases z'
 ·obtain⟨w,hj'⟩:=old j u hj;obtain⟨w',hk'⟩:=old k u' hk;exact r.apart j k w w' c hjk hj' hk' ha
theorem RE.lock(r:RE Γ B0 B1 Hs H σ ρ)(h1:Hs a=none)(h2:H a=some ho)(h3:∀(i:Nat)(o:O),ρ[i]?=some (some (.own o))->σ[i]?≠some (some (.ref a))):RE Γ B0 (c8 B1 a ho) Hs H σ ρ:=by
 refine⟨⟨r.b.s,λb u z=>?_,r.b.i,λb u z=>?_⟩,r.sh,λj u hj=>?_,r.apart,r.len,r.tb⟩
 ·by_cases hb:b=a
  ·subst hb;rw[aB] at z;cases z;exact h2
  ·rw[av hb] at z;exact r.b.h b u z
 ·have hb:b≠a:=aG z h1;rw[av hb];exact r.b.n b u z
 ·obtain⟨c,hc,f1,f2,f3,f4,f5⟩:=r.own j u hj;refine⟨c,hc,f1,?_,f3,f4,f5⟩;rw[av (λz=>by subst z;exact h3 j u hj f1)]
  exact f2
theorem RE.unlock(r:RE Γ B0 (c8 B1 a ho) Hs H σ ρ)(hb:B1 a=none)(h0:B0 a=none):RE Γ B0 B1 Hs H σ ρ/\Hs a=none/\H a=some ho/\∀(i:Nat)(o:O),ρ[i]?=some (some (.own o))->σ[i]?≠some (some (.ref a)):=by
 have hh:H a=some ho:=r.b.h a ho aB;have nea:∀{j:Nat}{u:O},ρ[j]?=some (some (.own u))->σ[j]?≠some (some (.ref a)):=λ{j u} hj z=>by
  obtain⟨c,hc,f1,f2,_⟩:=r.own j u hj;rw[z] at f1;cases f1;rw[aB] at f2;cases f2
 refine⟨⟨⟨r.b.s,λb u z=>?_,r.b.i,λb u z=>?_⟩,r.sh,λj u hj=>?_,r.apart,r.len,r.tb⟩,?_,hh,λi o hi=>nea hi⟩
 ·refine r.b.h b u ?_;rw[av (aG z hb)];exact z
 ·by_cases hba:b=a
  ·subst hba;exact .inr hb
  ·rcases r.b.n b u z with y|y
   ·exact .inl y
   ·rw[av hba] at y;exact .inr y
 ·obtain⟨c,hc,f1,f2,f3,f4,f5⟩:=r.own j u hj;refine⟨c,hc,f1,?_,f3,f4,f5⟩;have hca:c≠a:=λz=>by subst z;exact nea hj f1
  rw[av hca] at f2;exact f2
 ·cases z:Hs a with
  |none=>rfl
  |some u=>
   rcases r.b.n a u z with y|y
   ·rw[h0] at y;cases y
   ·rw[aB] at y;cases y
end
inductive tM(Γ:Ct)(g:MP)(σ:L2.St)(H:Hp)(Q:VK):Prop
 |mk (B0 B1 Hs:Hp) (ρ:MEnv) (d:D) (ρ':MEnv) (re:RE Γ B0 B1 Hs H σ ρ) (e:g ρ=some (d,ρ')) (q:∀v Hs' H',Same Hs Hs'->RE Γ B0 B1 Hs' H' σ ρ'->Rep Γ Hs' d v->Q v H')
abbrev PM(X:Cx)(Γ:Ct)(e:Expr)(g:MP):Prop:=PE X e (tM Γ g)
inductive KI(Γ:Ct)(F:MF)(vs:List V)(H:Hp)(Q:VK):Prop
 |mk (a:Addr) (xs ys:List V) (Hs:Hp) (o:O) (ho:HO) (ds es:List D) (d:D) (o':O) (ev:vs=xs++.ref a::ys) (sm:Same Hs H) (hs:Hs a=none) (hh:H a=some ho) (ro:fP Γ Hs a o ho) (r1:RepL Γ Hs ds xs) (r2:RepL Γ Hs es ys) (e:F o ds es=some (d,o'))
  (q:∀v Hs' H' ho',jI a Hs H Hs' H'->Hs' a=none->H' a=some ho'->fP Γ Hs' a o' ho'->Rep Γ Hs' d v->Q v H') (tb:Same Γ.tb Hs)
def JA(Γ:Ct)(F:MF):Sp:=λvs H Q _=>KI Γ F vs H Q
def om(Γ:Ct)(i:Nat)(hs:List ME):List ME->TA
 |[]=>sO (nu i) (pd Γ W0 hs)
 |g::gs=>sO (tD Γ W0 g) (om Γ i hs gs)
section
variable{X:Cx}{Γ:Ct}{i:Nat}{e:Expr}{es:List Expr}{g:ME}{gs hs:List ME}
theorem qA(hv:PE X e (nu i))(h:oo X Γ W0 es hs)(hst:starEach (e::es) X.env=(false,eval e X.env)::starEach es X.env:=by rfl):PA X (e::es) (om Γ i hs []):=br hv h hst
theorem j6(h:PD X Γ W0 e g)(t:PA X es (om Γ i hs gs))(hst:starEach (e::es) X.env=(false,eval e X.env)::starEach es X.env:=by rfl):PA X (e::es) (om Γ i hs (g::gs)):=br h t hst
theorem kS:∀(gs:List ME){σ:L2.St}{H:Hp}{Q Q':List V->Hp->Prop},(∀v H,Q v H->Q' v H)->om Γ i hs gs σ H Q->om Γ i hs gs σ H Q'
 |[],_,_,_,_,h,⟨v,e,t⟩=>⟨v,e,cL hs (λvs H z=>h _ _ z) t⟩
 |g::gs,_,_,_,_,h,t=>tD.mono t λv H1 t'=>kS gs (λvs H2 z=>h _ _ z) t'
theorem n8{a:Addr}{es:List D}:∀(gs:List ME){B0 B1 Hs H:Hp}{σ:L2.St}{ρ:MEnv}{ds:List D},RE Γ B0 B1 Hs H σ ρ->cY gs ρ=some ds->cY hs ρ=some es->σ[i]?=some (some (.ref a))->
  om Γ i hs gs σ H (λvs H1=>∃Hs1 xs ys,Grow Hs H Hs1 H1/\vs=xs++.ref a::ys/\RepL Γ Hs1 ds xs/\RepL Γ Hs1 es ys)
 |[],B0,B1,Hs,H,σ,ρ,ds,re,e,e2,hσ=>by
  cases e;exact⟨.ref a,hσ,cL hs (λvs H1 ⟨Hs1,g1,rl⟩=>⟨Hs1,[],vs,g1,rfl,.nil,rl⟩) (n0 hs re e2)⟩
 |g::gs,B0,B1,Hs,H,σ,ρ,ds,re,e,e2,hσ=>by
  unfold cY at e;split at e
  ·rename_i s hs';cases z:cY gs ρ with
   |none=>rw[z] at e;cases e
   |some ds'=>
    rw[z] at e;cases e;refine⟨B0,B1,Hs,ρ,_,re,hs',λv Hs' H' g' rs=>?_⟩;obtain⟨Hs2,g2,_,rp⟩:=rs.share g';refine kS gs (λvs H2 ⟨Hs3,xs,ys,g3,ev,r1,r2⟩=>?_) (n8 gs (re.grow g2) z e2 hσ);exact⟨Hs3,v::xs,ys,g2.trans g3,by rw[ev];rfl,.cons (rp.mono g3.s) r1,r2⟩
  ·cases e
end
def Da(P:Program)(w:World)(K:Frag)(mg:Str->Option Value)(base:Heap)(Γ:Ct)(k:Nat)(x:Str)(ps:List Str)(F:MF):Prop:=
 ∃f fd,dQ P w K mg base l3 k f fd ps (JA Γ F)/\mg x=some (.ref f)/\keepIn K (.ref f)=true/\gy K fd ps []
theorem Da.mono{P:Program}{w:World}{K:Frag}{mg:Str->Option Value}{base:Heap}{Γ:Ct}{j k:Nat}{x:Str}{ps:List Str}{F:MF}(h:Da P w K mg base Γ j x ps F)(l:j<=k):Da P w K mg base Γ k x ps F:=by
 obtain⟨f,fd,G,r⟩:=h;exact⟨f,fd,G.mono l,r⟩
section
variable{X:Cx}{Γ:Ct}{k i:Nat}{ps:List Str}{x:Str}{p pos:Pos}{e:Expr}{es:List Expr}{gs hs:List ME}{F:MF}
theorem qP{ρ ρ':MEnv}{d:D}(h:ir i F gs hs ρ=some (d,ρ')):∃o ds es o',ρ[i]?=some (some (.own o))/\cY gs ρ=some ds/\cY hs ρ=some es/\F o.core ds es=some (d,o')/\ρ'=ρ.set i (some (.own (o.put o'))):=by
 unfold ir at h;split at h
 ·rename_i o ho;cases h1:cY gs ρ with
  |none=>rw[h1] at h;cases h
  |some ds=>
   cases h2:cY hs ρ with
   |none=>rw[h1,h2] at h;cases h
   |some es=>
    cases h3:F o.core ds es with
    |none=>rw[h1,h2] at h;simp only[Option.bind_some,h3] at h;cases h
    |some q=>
     rw[h1,h2] at h;simp only[Option.bind_some,h3] at h;cases h;exact⟨o,ds,es,q.2,ho,rfl,rfl,h3,rfl⟩
 ·cases h
theorem GQ(h:Da X.prog X.w X.K X.mg X.base Γ k x ps F)(hr:bN k X.A)(hg:Gl X x)(ha:PA X (e::es) (om Γ i hs gs))(hdb:(x == ("__debug__":Str))=false:=by decide)(he:starEach (e::es) X.env=(false,eval e X.env)::starEach es X.env:=by rfl)(hpl:(backTo pos (starEach es X.env)).any (·.1)=false:=by rfl):
  PM X Γ (.Call (.Name x p) (e::es) [] pos) (ir i F gs hs):=by
 obtain⟨f,fd,G,hm,hk,hb⟩:=h;refine PE.imp (uE (E:=E0) (dvs:=[]) (ds:=[]) G hr hg hm hk hb .nil oZ ha hdb he hpl) λ_ _ σ H Q _ ⟨B0,B1,Hs,ρ,d,ρ',re,e,q⟩=>?_;obtain⟨o,ds,es',o',hd,e1,e2,e3,rfl⟩:=qP e;obtain⟨a,ho,f1,f2,f3,f4,f5⟩:=re.own i o hd;refine kS gs (λvs H1 ⟨Hs1,xs,ys,g1,ev,r1,r2⟩=>?_) (n8 gs re e1 e2 f1);show KI Γ F (vs++[]) H1 Q;rw[append_nil];have re1:=re.grow g1;exact⟨a,xs,ys,Hs1,o.core,ho,ds,es',d,o',ev,re1.b.i,g1.none f3 f4,g1.h _ _ f4,(f5.mono g1.s).core,r1,r2,e3,λv Hs' H' ho' gx hn hh ro rp=>q v Hs' H' (g1.s.trans gx.s) (re1.called hd f1 gx hn hh (fP.put f5 ro)) rp,re1.tb⟩
variable{a b:Expr}{g:MP}{gb:ME}
theorem JK{op:Operator}{f:D->D->Option R}(ho:iU X (binaryOp op) (rD Γ W0 f))(ha:PM X Γ a g)(hb:PD X Γ W0 b gb):PM X Γ (.BinOp a op b pos) (vo f g gb):=
 PE.imp (DO ho ha hb) λ_ _ σ H Q _ ⟨B0,B1,Hs,ρ,d,ρ',re,e,q⟩=>by
  unfold vo at e;cases h:g ρ with
  |none=>rw[h] at e;cases e
  |some p=>
   rw[h] at e;dsimp only[Option.bind_some] at e;refine⟨B0,B1,Hs,ρ,p.1,p.2,re,h,λv Hs1 H1 sm1 re1 rp1=>?_⟩;split at e
   ·rename_i s hs;refine⟨B0,B1,Hs1,p.2,_,re1,hs,λu Hs2 H2 g2 rs2=>?_⟩;obtain⟨Hs3,g3,_,rp3⟩:=rs2.share g2;split at e
    ·rename_i t ht;cases e;refine⟨Hs3,p.1,s.val,_,g3.i,rp1.mono g3.s,rp3,ht,λy Hs4 H4 g4 rs4=>?_⟩;obtain⟨Hs5,g5,_,rp5⟩:=rs4.share g4;exact q y Hs5 H4 ((sm1.trans g3.s).trans g5.s) ((re1.grow g3).grow g5) rp5
    ·cases e
   ·cases e
end
section
variable{X:Cx}{Γ:Ct}{W:XW}{e:Expr}{g:MP}{ge:ME}{pos pos':Pos}{i j:Nat}{x:Str}
theorem oX{st:Stmt}{t:TE}(h:PS X st (Do t (tJ i)))(ht:∀σ H Q,tM Γ g σ H Q->t σ H Q)(hi:i<X.N.length):sJ X Γ W st (mC i g):=PS.imp h λpins s σ H D I ⟨B0,B1,Hs,ρ,o,re,e,q⟩=>by
 unfold mC at e;cases h:g ρ with
 |none=>rw[h] at e;cases e
 |some p=>
  rw[h] at e;cases e;exact ht _ _ _ ⟨B0,B1,Hs,ρ,p.1,p.2,re,h,λv Hs' H' sm re' rp=>q _ Hs' H' sm (re'.setSh (by rw[I.len];exact hi) rp)⟩
theorem DD(hN:X.N.Nodup)(hi:X.N[i]?=some x)(hx:yd X.env.scope x)(he:PM X Γ e g)(hs:swapsWith e (some (.Name x pos')) pos.line X.env=pure false:=by rfl)
  (hf:X.fn x=true\/X.env.scope.names.lookup x=some .local:=by first|exact .inl rfl|exact .inr rfl|assumption):sJ X Γ W (.Assign [.Name x pos'] e pos) (mC i g):=
 oX (t:=tM Γ g) (yI hN hi hx he hs hf) (λ_ _ _ z=>z) (List.getElem?_eq_some_iff.mp hi).1
theorem wu(he:PD X Γ W e ge):sJ X Γ W (.Return (some e) pos) (wc j ge):=PS.imp (DG he) λpins s σ H D I ⟨B0,B1,Hs,ρ,o,re,e,q⟩=>by
 refine(Be re e q).mono λv H1 ⟨Hs1,s,g1,rs,e1⟩=>?_;split at e1
 ·rename_i a u hd;cases e1;obtain⟨Hs2,g2,_,rp⟩:=rs.share g1;obtain⟨c,ho,f1,f2,f3,f4,f5⟩:=re.own j _ hd;have f6:c=a/\fP Γ Hs c u ho:=f5;obtain⟨z,f7⟩:=f6;subst z;exact q v Hs2 H1 g2.s (re.b.trans g2) ⟨rp,ho,g2.none f3 f4,g2.h _ _ f4,f7.mono g2.s⟩
 ·cases e1
end
def By(H:Hp)(a:Addr):Hp:=λb=>if b=a then none else H b
theorem sX{H:Hp}{a:Addr}:By H a a=none:=if_pos rfl
theorem uz{H:Hp}{a b:Addr}(h:b≠a):By H a b=H b:=if_neg h
theorem Dp{N:List Str}{xs ys:List V}{u v:V}:(L2.start N (xs++u::ys)).set xs.length (some v)=L2.start N (xs++v::ys):=by
 unfold L2.start;rw[map_append,map_append,map_cons,map_cons,append_assoc,append_assoc];have:(List.map some xs).length=xs.length:=length_map ..;rw[←this,List.set_append_right _ _ (le_refl _),Nat.sub_self];simp
theorem Bz{Γ:Ct}{Hs H:Hp}{N:List Str}{a:Addr}{o:O}{ho:HO}{ds es:List D}{xs ys:List V}(sm:Same Hs H)(hs:Hs a=none)(hh:H a=some ho)(ro:fP Γ Hs a o ho)(r1:RepL Γ Hs ds xs)(r2:RepL Γ Hs es ys)(tb:Same Γ.tb Hs)(hN:ds.length<N.length):
  RE Γ Hs (By H a) Hs H (L2.start N (xs++.ref a::ys)) (ky N.length a o ds es):=by
 have rl:RepL Γ Hs (ds++.non::es) (xs++.non::ys):=r1.append (.cons (fu.mpr rfl) r2);have r0:=qi (N:=N) sm rl tb;have no:∀(i:Nat)(u:O),(cS N.length (ds++.non::es))[i]?≠some (some (.own u)):=λi u e=>by
  unfold cS at e;by_cases hi:i<(ds++D.non::es).length
  ·rw[getElem?_append_left (by simpa using hi),getElem?_map,getElem?_eq_getElem hi] at e
   cases e
  ·rw[getElem?_append_right (by simpa using hi),getElem?_replicate] at e
   split at e <;> cases e
 have r1':RE Γ Hs (By H a) Hs H (L2.start N (xs++.non::ys)) (cS N.length (ds++.non::es)):=by
  refine⟨⟨.refl _,λb u z=>?_,sm,λb u z=>.inl z⟩,r0.sh,λi u e=>absurd e (no i u),r0.apart,r0.len,r0.tb⟩;by_cases hb:b=a
  ·subst hb;rw[sX] at z;cases z
  ·rw[uz hb] at z;exact z
 have hl:ds.length<(L2.start N (xs++.non::ys)).length:=by
  rw[←r0.len];unfold cS;rw[length_append,length_map,length_append,length_cons];omega
 have r2':=r1'.setOwn (i:=ds.length) (o:=.par a o) (a:=a) (ho:=ho) hl sX hs hh ⟨rfl,ro⟩ λj u _ e=>absurd e (no j u);rw[r1.length,Dp,←r1.length] at r2';exact r2'
section
variable{P:Program}{w:World}{K:Frag}{mg:Str->Option Value}{base:Heap}{Γ:Ct}
theorem xr{Hs H Hs' H':Hp}{a:Addr}(g:Grow Hs (By H a) Hs' H')(hs:Hs' a=none):jI a Hs H Hs' H':=
 ⟨g.s,λb u hb z=>g.h b u (by rw[uz hb];exact z),g.i,λb u z=>by
  have hb:b≠a:=aG z hs;rcases g.n b u z with y|y
  ·exact .inl y
  ·rw[uz hb] at y;exact .inr y⟩
theorem _root_.L2.Fun.okC{x qual:Str}{st:Stmt}{f:Addr}{fd:FuncData}{N ps:List Str}{k:Nat}{sp:Sp}(F:Fun K x qual st f fd)(S:aq N ps (ag st))(len:∀vs H Q E,sp vs H Q E->vs.length=ps.length)
  (hbody:∀(cdv:Value),fd.code=cdv->∀(A:Around)(outer:List PySem.Env)(s:Shared)(H:Hp)(vs:List V)(Q:VK)(E:XK),bN k (A.deeper (envOfC qual (ag st) s.heap.objs.size f cdv))->sp vs H Q E->
   ∃t,pQ (lP l3 P w K mg base N qual (ag st) f cdv A outer s H E).nox (aR st) t/\t {nx:=λ_ H'=>Q .non H',rt:=Q} (start N vs) H):dQ P w K mg base l3 (k+1) f fd ps sp:=by
 obtain⟨oc,od,kV,doc,pm,an,cdv,ct,osl,rfl,lk,hcd⟩:=F.ex;refine Hb lk hcd S len λA outer s H vs Q E hr hsp=>?_;obtain⟨t,h,q⟩:=hbody cdv rfl A outer s H vs Q E hr hsp;exact⟨t,h.nox,q⟩
theorem Hc{x qual:Str}{st:Stmt}{f:Addr}{fd:FuncData}{N ps:List Str}{k j:Nat}{g:MC}(F:Fun K x qual st f fd)(S:aq N ps (ag st))(hN:ps.length<=N.length)
  (body:∀(cdv:Value),fd.code=cdv->∀(A:Around)(outer:List PySem.Env)(s:Shared)(H:Hp)(E:XK),bN k (A.deeper (envOfC qual (ag st) s.heap.objs.size f cdv))->l0 (lP l3 P w K mg base N qual (ag st) f cdv A outer s H E).nox Γ W0 (aR st) g):
  dQ P w K mg base l3 (k+1) f fd ps (JA Γ (CL j ps.length N.length g)):=by
 refine F.okC S (λvs H Q E ⟨a,xs,ys,Hs,o,ho,ds,es,d,o',ev,sm,hs,hh,ro,r1,r2,e,q,tb⟩=>?_) (λcdv hcd A outer s H vs Q E hr ⟨a,xs,ys,Hs,o,ho,ds,es,d,o',ev,sm,hs,hh,ro,r1,r2,e,q,tb⟩=>?_)
 ·obtain⟨h1,h2,_⟩:=xD e;rw[ev,length_append,length_cons,←r1.length,←r2.length];omega
 ·obtain⟨h1,h2,h3⟩:=xD e;have h3:=h3 a;subst ev;refine⟨tS Γ W0 g,body cdv hcd A outer s H E hr,?_⟩;have re:=Bz (N:=N) sm hs hh ro r1 r2 tb (by omega)
  cases h:g (ky N.length a o ds es) with
  |none=>rw[h] at h3;cases h3
  |some out=>
   rw[h] at h3;refine⟨Hs,By H a,Hs,ky N.length a o ds es,out,re,h,?_⟩;cases out with
   |next ρ'=>
    intro σ' Hs' H' _ re';unfold uK at h3;dsimp only at h3;split at h3
    ·rename_i b u hd;split at h3
     ·rename_i hba;subst hba;cases h3;obtain⟨c,ho',f1,f2,f3,f4,f5⟩:=re'.own j _ hd;have f6:c=b/\fP Γ Hs' c o' ho':=f5;obtain⟨z,f7⟩:=f6;subst z;exact q .non Hs' H' ho' (xr re'.b f3) f3 f4 f7 (fu.mpr rfl)
     ·cases h3
    ·cases h3
   |brk ρ'=>cases h3
   |cont ρ'=>cases h3
   |ret s=>
    cases s with
    |sh _=>cases h3
    |own _=>cases h3
    |two d1 b o1=>
     unfold uK at h3;dsimp only at h3;split at h3
     ·rename_i hba;subst hba;cases h3;intro v Hs' H' _ g' rs;obtain⟨rp,ho',z1,z2,z3⟩:=rs;exact q v Hs' H' ho' (xr g' z1) z1 z2 z3 rp
     ·cases h3
   |exc x=>cases h3
theorem L6{x qual:Str}{st:Stmt}{f:Addr}{fd:FuncData}{N ps:List Str}{k j:Nat}{g:MC}(F:Fun K x qual st f fd)(S:aq N ps (ag st))(hN:ps.length<=N.length)
  (body:∀(cdv:Value)(A:Around)(outer:List PySem.Env)(s:Shared)(H:Hp)(E:XK),bN k (A.deeper (envOfC qual (ag st) s.heap.objs.size f cdv))->l0 (lP l3 P w K mg base N qual (ag st) f cdv A outer s H E).nox Γ W0 (aR st) g):
  dQ P w K mg base l3 (k+1) f fd ps (JA Γ (CL j ps.length N.length g)):=Hc F S hN λcdv _=>body cdv
theorem AG{x qual:Str}{st:Stmt}{f:Addr}{fd:FuncData}{N ps:List Str}{k j:Nat}{g:MF->MC}(F:Fun K x qual st f fd)(S:aq N ps (ag st))(hN:ps.length<=N.length)
  (body:∀(G:MF)(l:Nat),k<=l->dQ P w K mg base l3 l f fd ps (JA Γ G)->∀(cdv:Value)(A:Around)(outer:List PySem.Env)(s:Shared)(H:Hp)(E:XK),bN l (A.deeper (envOfC qual (ag st) s.heap.objs.size f cdv))->l0 (lP l3 P w K mg base N qual (ag st) f cdv A outer s H E).nox Γ W0 (aR st) (g G)):
  ∀n,dQ P w K mg base l3 (k+n) f fd ps (JA Γ (n.rec (λ_ _ _=>none) λ_ G=>CL j ps.length N.length (g G)))
 |0=>⟨λvs H Q E ⟨_,_,_,_,_,_,_,_,_,_,_,_,_,_,_,_,_,e,_,_⟩=>(nomatch e),λA outer s H args us vs Q E _ _ _ _ ⟨_,_,_,_,_,_,_,_,_,_,_,_,_,_,_,_,_,e,_,_⟩=>(nomatch e)⟩
 |n+1=>L6 F S hN (body _ (k+n) (Nat.le_add_right _ _) (AG F S hN body n))
theorem xC{x:Str}{st:Stmt}{N ps:List Str}{k j:Nat}{g:MF->MC}(L:bz K mg x st ps)(S:aq N ps (ag st))(hN:ps.length<=N.length)
  (body:∀(f:Addr)(G:MF)(l:Nat),k<=l->Da P w K mg base Γ l x ps G->∀(cdv:Value)(A:Around)(outer:List PySem.Env)(s:Shared)(H:Hp)(E:XK),bN l (A.deeper (envOfC x (ag st) s.heap.objs.size f cdv))->l0 (lP l3 P w K mg base N x (ag st) f cdv A outer s H E).nox Γ W0 (aR st) (g G)) (n:Nat):
  Da P w K mg base Γ (k+n) x ps (n.rec (λ_ _ _=>none) λ_ G=>CL j ps.length N.length (g G)):=by
 obtain⟨f,fd,F,hm,hb⟩:=L.ex;exact⟨f,fd,AG F S hN (λG l hl ok=>body f G l hl ⟨f,fd,ok,hm,F.kp,hb⟩) n,hm,F.kp,hb⟩
end
theorem RE.adopt'{Γ:Ct}{B0 B1 Hs H:Hp}{σ:L2.St}{ρ:MEnv}(r:RE Γ B0 B1 Hs H σ ρ){a:Addr}{ho:HO}(h1:Hs a=none)(h2:B1 a=none)(h4:H a=some ho)(h3:∀(i:Nat)(o:O),ρ[i]?=some (some (.own o))->σ[i]?≠some (some (.ref a))):RE Γ B0 B1 (c8 Hs a ho) H σ ρ:=by
 have sm:Same Hs (c8 Hs a ho):=aX h1;have sh':Same (c8 Hs a ho) H:=λb u z=>by
  by_cases hb:b=a
  ·subst hb;rw[aB] at z;cases z;exact h4
  ·rw[av hb] at z;exact r.b.i _ _ z
 refine⟨⟨r.b.s.trans sm,r.b.h,sh',λb u z=>?_⟩,λj d hj=>?_,λj u hj=>?_,r.apart,r.len,r.tb.trans sm⟩
 ·by_cases hb:b=a
  ·subst hb;exact .inr h2
  ·rw[av hb] at z;exact r.b.n _ _ z
 ·obtain⟨v,f1,f2⟩:=r.sh j d hj;exact⟨v,f1,f2.mono sm⟩
 ·obtain⟨c,hc,f1,f2,f3,f4,f5⟩:=r.own j u hj;refine⟨c,hc,f1,f2,?_,f4,f5.mono sm⟩;rw[av]
  ·exact f3
  ·intro z;subst z;exact h3 j u hj f1
inductive Lk(Γ:Ct)(g:MP)(σ:L2.St)(H:Hp)(Q:VK):Prop
 |mk (B0 B1 Hs:Hp) (ρ:MEnv) (d:D) (ρ':MEnv) (re:RE Γ B0 B1 Hs H σ ρ) (e:g ρ=some (d,ρ')) (q:∀a ys ds Hs' H',Same Hs Hs'->RE Γ B0 B1 Hs' H' σ ρ'->d=.lst ds->Hs' a=none->B1 a=none->H' a=some (.lst ys)->(∀(i:Nat)(o:O),ρ'[i]?=some (some (.own o))->σ[i]?≠some (some (.ref a)))->RepL Γ Hs' ds ys->Q (.ref a) H')
theorem tM.l{Γ:Ct}{g:MP}{σ:L2.St}{H:Hp}{Q:VK}(t:tM Γ g σ H Q):Lk Γ g σ H Q:=by
 obtain⟨B0,B1,Hs,ρ,d,ρ',re,e,q⟩:=t;exact⟨B0,B1,Hs,ρ,d,ρ',re,e,λa ys ds Hs' H' sm re' hd ha hb hh ap rl=>q (.ref a) (c8 Hs' a (.lst ys)) H' (sm.trans (aX ha)) (re'.adopt' ha hb hh ap) (hd▸bH.mpr ⟨a,ys,rfl,.of aB,rl.mono (aX ha)⟩)⟩
section
variable{Γ:Ct}{js:List Nat}{gi:MI}{bd:MB}{elt:MP}
theorem Dm(hb:yb js bd){σ:L2.St}{H:Hp}{Q:VK}(t:Lk Γ (p3 js gi bd elt) σ H Q):
  vX js (tI Γ W0 gi) (Jw Γ js bd) vW (tM Γ elt) σ H Q:=by
 obtain⟨B0,B1,Hs,ρ,dv,ρ',re,e,q⟩:=t;unfold p3 at e;cases h:gi ρ with
 |none=>rw[h] at e;cases e
 |some x=>
  rw[h] at e;cases x with
  |exc y=>cases e
  |ok ds=>
   refine⟨B0,B1,Hs,ρ,.ok ds,re,h,?_⟩;intro J Hs1 H1 g1 w a ha;dsimp only at e;split at e
   ·rename_i hc;obtain⟨hlim,hcl⟩:=hc;have hfo:=o5 js ρ hcl;cases hcm:o4 js bd elt ds ρ with
    |none=>rw[hcm] at e;cases e
    |some pr=>
     rw[hcm] at e;cases e;have hs1:Hs1 a=none:=g1.i.free ha;have h0:H a=none:=g1.h.free ha;have hb1:B1 a=none:=re.b.h.free h0;have hb0:B0 a=none:=re.b.s.free (re.b.i.free h0);have re1:RE Γ B0 B1 Hs1 H1 (fB js σ) ρ:=(re.grow g1).sub (by rw[gm,re.len]) λi s z=>by
      have z':(bI js ρ)[i]?=some (some s):=by rw[hfo];exact z
      obtain⟨z1,_⟩:=eO js ρ i s z';exact⟨z,lK js σ i z1⟩
     have ap1:∀(i:Nat)(o:O),ρ[i]?=some (some (.own o))->(fB js σ)[i]?≠some (some (.ref a)):=λi o z z'=>by
      obtain⟨c,hc,f1,_,_,f4,_⟩:=re1.own i o z;rw[z'] at f1;cases f1;rw[ha] at f4;cases f4
     have cl1:∀(i:Nat)(s:S),ρ[i]?=some (some s)->i∉js:=λi s z=>by
      have z':(bI js ρ)[i]?=some (some s):=by rw[hfo];exact z
      exact(eO js ρ i s z').1
     refine⟨λi m σ2 ys H2=>m=ds.length - i/\i<=ds.length/\∃Hs2 ρ2 acc rest,Same Hs1 Hs2/\RE Γ B0 B1 Hs2 H2 σ2 ρ2/\(∀(k:Nat)(s:S),ρ2[k]?=some (some s)->k∉js)/\(σ2.length=σ.length/\∀k:Nat,k∉js->σ2[k]?=σ[k]?)/\Hs2 a=none/\
      (∀(i:Nat)(o:O),ρ2[i]?=some (some (.own o))->σ2[i]?≠some (some (.ref a)))/\H2 a=some (.lst ys)/\RepL Γ Hs2 acc ys/\o4 js bd elt (ds.drop i) ρ2=some (rest,pr.2)/\pr.1=acc++rest/\acc.length<=i,
      ⟨_,rfl,zero_le _,Hs1,ρ,[],pr.1,.refl _,re1.other hs1 hb1 ap1,cl1,⟨gm js σ,λk hk=>lK js σ k hk⟩,hs1,ap1,aB,.nil,hcm,rfl,zero_le _⟩,?_⟩
     rintro i m σ2 ys H2 ⟨rfl,hi,Hs2,ρ2,acc,rest,sm,re2,cl2,hσ2,ha2,ap,hy,rl,ec,hpr,hacc⟩
     refine⟨hy,?_⟩;by_cases hlt:i<ds.length
     ·refine .inr ⟨w.go i Hs2 H2 hlt sm re2.b.i,λx H3 y=>?_⟩;obtain⟨d,Hs3,ed,g3,rp⟩:=w.yld i Hs2 H2 x H3 hlt sm re2.b.i y;have hd:ds.drop i=d::ds.drop (i+1):=by
       rw[List.drop_eq_getElem_cons hlt];congr 1;rw[getElem?_eq_getElem hlt] at ed;exact Option.some.inj ed
      rw[hd] at ec;unfold o4 at ec;cases hbd:bd d ρ2 with
      |none=>rw[hbd] at ec;cases ec
      |some ρ1=>
       rw[hbd] at ec;dsimp only at ec;obtain⟨bl,bo⟩:=hb d _ ρ1 hbd;have ha3:=g3.none ha2 hy;have hy3:=g3.h _ _ hy;refine⟨B0,c8 B1 a (.lst ys),Hs3,ρ2,d,ρ1,(re2.grow g3).lock ha3 hy3 ap,rp,hbd,λσ4 re4 hσ=>?_⟩;cases hel:elt ρ1 with
       |none=>rw[hel] at ec;cases ec
       |some pv=>
        rw[hel] at ec;dsimp only[Option.bind_some] at ec;cases hre:o4 js bd elt (ds.drop (i+1)) (bI js pv.2) with
        |none=>rw[hre] at ec;cases ec
        |some qv=>
         rw[hre] at ec;have e5:pv.1::qv.1=rest:=(Prod.mk.inj (Option.some.inj ec)).1;have e6:qv.2=pr.2:=(Prod.mk.inj (Option.some.inj ec)).2;unfold vW;refine K7 ?_;refine⟨B0,c8 B1 a (.lst ys),Hs3,ρ1,pv.1,pv.2,re4,hel,λv Hs6 H6 sm6 re6 rp6=>?_⟩;obtain⟨re7,ha6,hy6,ap6⟩:=re6.unlock hb1 hb0;have hlen:acc.length=ys.length:=rl.length;have hbig:ys.length<sizeLine:=lt_of_lt_of_le (by omega:ys.length<lim) (by decide)
         have re8:RE Γ B0 B1 Hs6 H6 σ4 (bI js pv.2):=re7.sub (by rw[mG,re7.len]) λk s z=>⟨(eO js pv.2 k s z).2,rfl⟩
         have ap8:∀(k:Nat)(o:O),(bI js pv.2)[k]?=some (some (.own o))->σ4[k]?≠some (some (.ref a)):=λk o z=>ap6 k o (eO js pv.2 k _ z).2;have l4:σ4.length=σ.length:=by rw[←re4.len,bl,re2.len];exact hσ2.1
         refine⟨hy6,hbig,_,by omega,rfl,hlt,Hs6,bI js pv.2,acc++[pv.1],qv.1,(sm.trans g3.s).trans sm6,re8.other ha6 hb1 ap8,λk s z=>(eO js pv.2 k s z).1,⟨l4,λk hk=>(hσ k hk).trans (hσ2.2 k hk)⟩,ha6,ap8,aB,(rl.mono (g3.s.trans sm6)).append (.cons rp6 .nil),by rw[hre,←e6],by rw[hpr,append_assoc,←e5];rfl,by rw[length_append,length_singleton];omega⟩
     ·have ei:i=ds.length:=by omega
      subst ei;rw[List.drop_length] at ec;have e5:[]=rest:=(Prod.mk.inj (Option.some.inj ec)).1;have e6:ρ2=pr.2:=(Prod.mk.inj (Option.some.inj ec)).2;subst e5;rw[e6] at re2 cl2 ap;refine .inl ⟨w.stop Hs2 H2 sm re2.b.i,?_⟩;have re9:RE Γ B0 B1 Hs2 H2 σ pr.2:=re2.sub (by rw[re2.len];exact hσ2.1) λk s z=>⟨z,(hσ2.2 k (cl2 k s z)).symm⟩
      have ap9:∀(k:Nat)(o:O),pr.2[k]?=some (some (.own o))->σ[k]?≠some (some (.ref a)):=λk o z=>by
       rw[←hσ2.2 k (cl2 k _ z)];exact ap k o z
      rw[append_nil] at hpr;exact q a ys _ Hs2 H2 (g1.s.trans sm) re9 rfl ha2 hb1 hy ap9 (hpr▸rl)
   ·cases e
theorem Fp(hb:yb js bd){σ:L2.St}{H:Hp}{Q:VK}(t:tM Γ (p3 js gi bd elt) σ H Q):vX js (tI Γ W0 gi) (Jw Γ js bd) vW (tM Γ elt) σ H Q:=Dm hb t.l
section
variable{X:Cx}{scope:Scope}{vars:List Str}{elt' tg iter:Expr}{pos pos' spos:Pos}{i:Nat}{x:Str}{W:XW}
theorem BF(hN:X.N.Nodup)(hi':X.N[i]?=some x)(hx:yd X.env.scope x)(hb:yb js bd)(hc:dh scope X.env.scope vars=true)(hj:jn X.N vars js=true)(hcalm:X.calm=true)(hi:GG X Γ W0 tg iter gi)
  (hg:∀fp s H a,Hi (cZ X scope fp s H a) Γ tg js bd) (he:∀fp s H a,PM (cZ X scope fp s H a) Γ elt' elt)
  (hsw:swapsWith (.ListComp elt' [⟨tg,iter,[],0⟩] scope pos) (some (.Name x pos')) spos.line X.env=pure true:=by rfl) (hs:∀x,foldedSetIterable iter X.env x=pure x:=by intro _;rfl)
  (hf:X.fn x=true\/X.env.scope.names.lookup x=some .local:=by first|exact .inl rfl|exact .inr rfl|assumption):
  sJ X Γ W (.Assign [.Name x pos'] (.ListComp elt' [⟨tg,iter,[],0⟩] scope pos) spos) (mC i (p3 js gi bd elt)):=
 oX (mN hN hi' hx hc hj hcalm hi hg (λ_ _ _ _=>uC) he hsw hs hf) (λ_ _ _ t=>Fp hb t) (List.getElem?_eq_some_iff.mp hi').1
end
end
end L3
namespace L2
open PySem PySem.Spec
end L2
namespace L3
open PySem PySem.Spec PyProof.Rows L2
section
variable{X:Cx}{Γ:Ct}{W:XW}{i:Nat}{x:Str}{px apos cpos pos pos' zpos:Pos}{k:Expr}{gk:ME}
theorem fP.dic{Hs:Hp}{a:Addr}{o:O}{ho:HO}{kvs:Tb}(h:fP Γ Hs a o ho)(e:o.core=.dic kvs):ho=.dT (zE kvs):=by
 have h:=h.core;rw[e] at h;exact h
theorem EW{ρ:MEnv}{r:R}(h:D9 i gk ρ=some r):∃o kvs ks v,ρ[i]?=some (some (.own o))/\o.core=.dic kvs/\gk ρ=okD (.tup (ks.map D.int))/\c7 kvs ks=some v/\r=.ok (.sh (.int v)):=by
 unfold D9 at h;cases h1:iy i ρ with
 |none=>rw[h1] at h;cases h
 |some p=>
  rw[h1] at h;dsimp only[Option.bind_some] at h;obtain⟨e1,e2⟩:=jh (o:=p.1) (kvs:=p.2) h1;cases h2:kT (gk ρ) with
  |none=>rw[h2] at h;cases h
  |some ks=>
   rw[h2] at h;dsimp only[Option.bind_some] at h;cases h3:c7 p.2 ks with
   |none=>rw[h3] at h;cases h
   |some v=>rw[h3] at h;cases h;exact⟨p.1,p.2,ks,v,e1,e2,mT h2,h3,rfl⟩
theorem CN{n:Bool}{ρ:MEnv}{r:R}(h:zV n i gk ρ=some r):∃o kvs ks,ρ[i]?=some (some (.own o))/\o.core=.dic kvs/\gk ρ=okD (.tup (ks.map D.int))/\r=.ok (.sh (.bl (n != (c7 kvs ks).isSome))):=by
 unfold zV at h;cases h1:iy i ρ with
 |none=>rw[h1] at h;cases h
 |some p=>
  rw[h1] at h;dsimp only[Option.bind_some] at h;obtain⟨e1,e2⟩:=jh (o:=p.1) (kvs:=p.2) h1;cases h2:kT (gk ρ) with
  |none=>rw[h2] at h;cases h
  |some ks=>rw[h2] at h;cases h;exact⟨p.1,p.2,ks,e1,e2,mT h2,rfl⟩
theorem yS(hu:X.A.units+1<cLine)(hv:PE X (.Name x px) (nu i))(hk:PK X Γ k gk)(hs:Jf k:=by exact λ_ _=>rfl):PD X Γ W (.Subscript (.Name x px) k pos) (D9 i gk):=
 PE.imp (FQ hu hv hk hs) λ_ _ σ H Q _ ⟨B0,B1,Hs,ρ,r,re,e,q⟩=>by
  obtain⟨o,kvs,ks,v,hd,ec,eg,gv,rfl⟩:=EW e;obtain⟨a,ho,e1,e2,e3,e4,hq⟩:=re.own i _ hd;have hq:=hq.dic ec;subst hq;refine⟨.ref a,e1,B0,B1,Hs,ρ,ks,re,eg,λb H' sm eb=>⟨a,.int v,rfl,?_,q _ Hs H' (.only re.b.i sm) (ic.of (ai.mpr rfl))⟩⟩;have g:=rE.t (k:=ks.map Sum.inl) (sm _ _ e4) (by rw[zF];exact eb)
  rw[ub,gv] at g;exact g
theorem Bd{σ:L2.St}{H:Hp}{Q:VK}(t:tD Γ W (zV true i gk) σ H Q):Ai (tK Γ gk) (nu i) σ H Q:=by
 obtain⟨B0,B1,Hs,ρ,r,re,e,q⟩:=t;obtain⟨o,kvs,ks,hd,ec,eg,rfl⟩:=CN e;obtain⟨a,ho,e1,e2,e3,e4,hq⟩:=re.own i _ hd;have hq:=hq.dic ec;subst hq;refine⟨B0,B1,Hs,ρ,ks,re,eg,λb H' sm eb=>⟨.ref a,e1,a,_,rfl,rE.t (k:=ks.map Sum.inl) (sm _ _ e4) (by rw[zF];exact eb),?_⟩⟩
 rw[ub,Option.isSome_map];refine q _ Hs H' (.only re.b.i sm) (ic.of (cT.mpr ?_));rw[Bool.true_bne]
theorem yF(hu:X.A.units+1<cLine)(hv:PE X (.Name x px) (nu i))(hk:PK X Γ k gk):B4 X Γ W (.Compare k [.NotIn] [.Name x px] pos) (zV true i gk):=PT.imp (HF (BK hu hk hv)) λ_ _ _ _ _ _ t=>Bd (Dl t)
theorem yA{ge:ME}{ρ:MEnv}{o:oq}(h:sV i gk ge ρ=some o):∃v u kvs ks,ge ρ=okI v/\ρ[i]?=some (some (.own u))/\u.core=.dic kvs/\gk ρ=okD (.tup (ks.map D.int))/\kvs.length<lim/\o=.next (ρ.set i (some (.own (u.put (.dic (yE kvs ks v)))))):=by
 unfold sV at h;cases h0:pC (ge ρ) with
 |none=>rw[h0] at h;cases h
 |some v=>
  rw[h0] at h;dsimp only[Option.bind_some] at h;cases h1:iy i ρ with
  |none=>rw[h1] at h;cases h
  |some p=>
   rw[h1] at h;dsimp only[Option.bind_some] at h;obtain⟨e1,e2⟩:=jh (o:=p.1) (kvs:=p.2) h1;cases h2:kT (gk ρ) with
   |none=>rw[h2] at h;cases h
   |some ks=>
    rw[h2] at h;dsimp only[Option.bind_some] at h;obtain⟨hl,e⟩:=b0 h;exact⟨v,p.1,p.2,ks,ua h0,e1,e2,mT h2,hl,e.symm⟩
theorem BE{e:Expr}{ge:ME}(hu:X.A.units+1<cLine)(hv:PE X (.Name x px) (nu i))(hk:PK X Γ k gk)(he:PD X Γ W e ge)(hs:swapsWith e (some (.Subscript (.Name x px) k pos')) pos.line X.env=pure false:=by rfl):
  sJ X Γ W (.Assign [.Subscript (.Name x px) k pos'] e pos) (sV i gk ge):=
 PS.imp (FH hu hv hk he hs) λpins s σ H En I ⟨B0,B1,Hs,ρ,o,re,eo,q⟩=>by
  obtain⟨v,u,kvs,ks,hge,hd,ec,hgk,hl,rfl⟩:=yA eo;obtain⟨a,ho,e1,e2,e3,e4,hq0⟩:=re.own i _ hd;have hq:=hq0.dic ec;subst hq;refine⟨B0,B1,Hs,ρ,.ok (.sh (.int v)),re,hge,λy Hs1 H1 g1 rs=>?_⟩;obtain rfl:y=.int v:=ai.mp (show Rep Γ Hs1 (.int v) y from rs);have re1:=re.grow g1;refine⟨.ref a,e1,B0,B1,Hs1,ρ,ks,re1,hgk,λb H3 sm eb=>?_⟩;refine⟨a,_,rfl,.t (sm _ _ (g1.h _ _ e4)) (by rw[zF];exact eb) (by unfold zE;rw[length_map];exact lt_of_lt_of_le hl (by decide)),?_⟩
  refine q σ Hs1 _ g1.s ((re1.grow (.only re1.b.i sm)).write hd e1 (fP.put hq0 ?_));show HO.dT _=HO.dT _;rw[FD]
end
section
variable{X:Cx}{Γ:Ct}{W:XW}
theorem xk{H:Hp}:∀(ns:List Int)(xs:List V),RepL Γ H (ns.map D.int) xs->xs=ns.map V.int
 |[],xs,rl=>dI.mp rl
 |n::r,xs,rl=>by
  obtain⟨x,r',rfl,q1,t⟩:=aZ.mp rl;rw[ai.mp q1,xk r r' t];rfl
theorem AD{ns:List Int}{its:List Value}(rv:Vals (ns.map V.int) its){i:Nat}{v:Value}(h:its[i]?=some v):∃t,v=.int (ns.getD i 0) t:=by
 have hl:=rv.length;have hi:i<its.length:=(List.getElem?_eq_some_iff.mp h).1;have hi':i<ns.length:=by rw[length_map] at hl;omega
 obtain⟨u,hu,ru⟩:=rv.get (i:=i) (x:=.int ns[i]) (by rw[getElem?_map,getElem?_eq_getElem hi'];rfl)
 rw[h] at hu;cases hu;obtain⟨t,rfl⟩:=ru;exact⟨t,by rw[getD_eq_getElem?_getD,getElem?_eq_getElem hi'];rfl⟩
theorem D1{pins:List (Addr×Obj)}{s:Shared}{σ:L2.St}{H:Hp}{a:Addr}{ns:List Int}{z:Int}{tz:Tok}{Q:VK}(hc:X.calm=true)(I:aC X pins σ H s)(sq:kY X.K H a (ns.map V.int))(q:Q (.int (jM z ns)) H):
  wpAny (model X.prog X.w) X.A (call (.builtin "max") [.ref a] [(Str.ofString "default",.int z tz)]) (EP X pins σ Q) X.xe s:=by
 obtain⟨its,rv,p,hz⟩:=I.list sq;have hls:=p.isList;have hlen:its.length=ns.length:=by have:=rv.length;rw[length_map] at this;omega
 have hlt:a<s.heap.objs.size:=by obtain⟨_,e,_⟩:=hls;exact lt_size e
 refine PyProof.Rows.kmk_tree PySem.F.kind_max PySem.F.plain_max PySem.F.entry_max (Eb _ _) ?_;show wpAny _ X.A.in1 (Builtin.Builtins.bindParams "max" ["key","default"] 0 ⟨[],[(Str.ofString "default",.int z tz)]⟩ >>= _) _ _ s;refine wpAny_bind (wpAny_of_eq (show Builtin.Builtins.bindParams "max" ["key","default"] 0 ⟨[],[(Str.ofString "default",.int z tz)]⟩=pure [none,some (.int z tz)] from rfl) ?_);refine wpAny_bind (wpAny_pure ?_);refine wpAny_bind (wpAny_pyIter_list hls ?_);refine wpAny_bind (wpAny_newList ?_ (zero_le _));rw[nU];have hne:a≠s.heap.objs.size:=ne_of_lt hlt;have sz:(s.heap.push {cls:=.type "list_iterator",data:=.fields #[.ref a,.int 0 0]}).objs.size=s.heap.objs.size+1:=by rw[size_push]
 have kp:∀(b:Addr)(o:Obj)(h':Heap),s.heap.get? b=some o->(∀x o,x∉[s.heap.objs.size]->x≠(s.heap.push {cls:=.type "list_iterator",data:=.fields #[.ref a,.int 0 0]}).objs.size->((s.heap.push {cls:=.type "list_iterator",data:=.fields #[.ref a,.int 0 0]}).push (seqObj "list" #[] 0)).get? x=some o->h'.get? x=some o)->h'.get? b=some o:=λb o h' e k=>by
  have hb:=lt_size e;exact k b o (λh=>ne_of_lt hb (mem_singleton.mp h)) (by rw[sz];exact ne_of_lt (lt_succ_of_lt hb)) (get?_push_of_some _ (get?_push_of_some _ e))
 refine wpAny_pure ⟨plainId_quiet PySem.F.plain_max_loop _,Ce (Walks.list (A:=X.A.in1) (I.ok.hd hc) s.heap.objs.size a hne its.toArray) _ (CmpOf.ints_gt (λi=>ns.getD i 0) λi v h=>AD rv (by simpa using h)) _ (λh=>(mem_cons.mp h).elim (λh=>absurd h (by rw[sz];exact Nat.succ_ne_self _)) λh=>absurd (mem_singleton.mp h).symm (by rw[sz];exact ne_of_lt (lt_succ_of_lt hlt))) (.int z tz) ⟨⟨_,get?_push_of_some _ (get?_push_size _ rfl),rfl,rfl⟩,(hls.push _).push _⟩ (get?_push_size _ rfl) (λh0 h' tk k=>?_) λh0 v h' tk pv k=>?_⟩
 ·have:ns=[]:=by
   have:its.length=0:=by simpa using h0
   exact List.eq_nil_of_length_eq_zero (by omega)
  subst this;refine⟨.int z,H,I.kept λb o e=>?_,⟨_,rfl⟩,q⟩;exact k b o (λh=>ne_of_lt (lt_size e) (mem_singleton.mp h)) (get?_push_of_some _ (get?_push_of_some _ e))
 ·have pv':its[argBest (λi j=>decide (ns.getD i 0 > ns.getD j 0)) (its.toArray.size - 1)]?=some v:=by rw[List.getElem?_toArray] at pv;exact pv
  obtain⟨t,rfl⟩:=AD rv pv';have hsz:its.toArray.size=ns.length:=by simpa using hlen
  have hpos:0<ns.length:=by rw[←hsz];exact h0
  rw[hsz];obtain⟨b1,b2⟩:=PySem.argBest_gt (λi=>ns.getD i 0) (ns.length - 1);obtain⟨m1,m2⟩:=mi z ns (λz=>by rw[z] at hpos;cases hpos)
  have e:ns.getD (argBest (λi j=>decide (ns.getD i 0 > ns.getD j 0)) (ns.length - 1)) 0=jM z ns:=by
   refine Int.le_antisymm (m2 _ ?_) ?_
   ·rw[getD_eq_getElem?_getD,getElem?_eq_getElem (by omega)];exact getElem_mem _
   ·obtain⟨j,hj,ej⟩:=List.mem_iff_getElem.mp m1;have:=b2 j (by omega)
    rw[getD_eq_getElem?_getD,getElem?_eq_getElem hj] at this;rw[←ej];exact this
  rw[e];exact⟨.int (jM z ns),H,I.kept λb o e=>kp b o h' e k,⟨_,rfl⟩,q⟩
theorem FX{a:Expr}{g:ME}{z:Int}{jz:Nat}{p pos zp kp:Pos}(hK:X.K=Γ.K)(hc:X.calm=true)(hg:Gl X "max")(hm:X.mg "max" = none)(ha:PD X Γ W a g)(hs:starEach [a] X.env=(false,eval a X.env)::starEach [] X.env:=by rfl)
  (he:backTo pos (starEach [a] X.env)=(false,eval a X.env)::backTo pos (starEach [] X.env):=by rfl) (hpl:(backTo pos (starEach [a] X.env)).any (·.1)=false:=by rfl):
  PD X Γ W (.Call (.Name "max" p) [a] [⟨some "default",.Constant (.int z) jz zp,kp⟩] pos) (l5 (rf z) g):=by
 intro pins s σ H Q I ⟨B0,B1,Hs,ρ,r,re,e,q⟩;refine wpAny_Call_Name_kw (lD I hg hm L3.Fc ?_ (by decide) (by decide))
 have step:=(bV re e q).mono (Q':=λv H1=>Bc σ H1 λxs H2=>∃Hs1 d,Grow Hs H Hs1 H2/\v::xs=[v]/\Rep Γ Hs1 d v/\rf z d=some r/\RQ Γ W Hs1 H2 r Q/\RE Γ B0 B1 Hs1 H2 σ ρ) λv H1 ⟨Hs1,d,g1,re1,rp,e1,q1⟩=>⟨Hs1,d,g1,rfl,rp,e1,q1,re1⟩;refine callWith_kw (dA ((br ha dY hs) pos pins s σ H (λvs H2=>∃v Hs1 d,vs=[v]/\Grow Hs H Hs1 H2/\Rep Γ Hs1 d v/\rf z d=some r/\RQ Γ W Hs1 H2 r Q/\RE Γ B0 B1 Hs1 H2 σ ρ) I (step.mono λv H1 ⟨Hs1,d,g1,_,rp,e1,q1,re1⟩=>⟨v,Hs1,d,rfl,g1,rp,e1,q1,re1⟩)) λus s1 ⟨vs,H1,I1,r1,v,Hs1,d,ev,g1,rp,e1,q1,re1⟩=>?_) he hpl rfl rfl;refine dA ((Ar (nm:=some "default") (kpos:=kp) yQ DJ) pos pins s1 σ H1 (λvs H2=>vs=[.int z]/\H2=H1) I1 ⟨rfl,rfl⟩) λws s2 ⟨zs,H2,I2,rz,ez,eh⟩=>?_;subst ev ez eh;obtain⟨u,rfl,ru⟩:=j0 r1;obtain⟨u',rfl,ru'⟩:=j0 rz;obtain⟨tz,rfl⟩:=ru';cases d with
 |lst ds=>
  cases hn:intsOf ds with
  |none=>unfold rf at e1;dsimp only at e1;rw[hn] at e1;cases e1
  |some ns=>
   unfold rf at e1;dsimp only at e1;rw[hn] at e1;cases e1;obtain⟨b,xs,rfl,sq,rl⟩:=bH.mp rp;cases ru;have hds:=mV hn;subst hds;have hxs:=xk ns xs rl;subst hxs;exact D1 hc I2 (by rw[hK];exact Same.seq re1.b.i sq) (q1 _ Hs1 _ (.refl re1.b.i) (ic.of (ai.mpr rfl)))
 |_=>cases e1
end
section
variable{X:Cx}{Γ:Ct}{W:XW}{pos:Pos}
theorem vH:dD X (.type "range") (λxs H Q=>∃hi,xs=[.int hi]/\∀p,H p=none->Q (.ref p) (c8 H p (.rng 0 hi))):=λpins s σ H xs us Q I r ⟨hi,ex,q⟩=>by
 subst ex;obtain⟨u,rfl,⟨t,rfl⟩⟩:=j0 r;exact call_range_1 ⟨.ref s.heap.objs.size,_,I.laid (t':=_) (o:=.rng 0 hi) (λb o e=>get?_push_of_some _ e) (le_refl _) ⟨_,_,_,get?_push_size _ rfl⟩,rfl,q _ I.fresh⟩
theorem rQ{a:Expr}{ga:ME}{p p' pos':Pos}(hc:X.calm=true)(hg:Gl X "list")(hm:X.mg "list" = none)(hg2:Gl X "range")(hm2:X.mg "range" = none)(ha:PD X Γ W a ga)
  (hs1:starEach [a] X.env=(false,eval a X.env)::starEach [] X.env:=by rfl) (hpl:(backTo pos' (starEach [] X.env)).any (·.1)=false:=by rfl)
  (hs3:starEach [.Call (.Name "range" p') [a] [] pos'] X.env=(false,eval (.Call (.Name "range" p') [a] [] pos') X.env)::starEach [] X.env:=by rfl) (hpl2:(backTo pos (starEach [] X.env)).any (·.1)=false:=by rfl):
  PD X Γ W (.Call (.Name "list" p) [.Call (.Name "range" p') [a] [] pos'] [] pos) (l5 ra ga):=
 PE.imp (gA (o9 hc) hg hm boot_list (br (gA vH hg2 hm2 boot_range (br ha dY hs1) (by decide) (by decide) hs1 hpl) dY hs3) (by decide) (by decide) hs3 hpl2) λ_ _ σ H Q _ ⟨B0,B1,Hs,ρ,r,re,e,q⟩=>by
  refine(bV re e q).mono λv H1 ⟨Hs1,d,g1,re1,rp,e1,q1⟩=>?_;cases d with
  |int hi=>
   obtain⟨⟨h2,h3⟩,rfl⟩:=b0 (show(if gf hi=true/\hi.toNat<=lim then okL (rng 0 hi) else none)=some r from e1);refine⟨hi,by rw[ai.mp rp],λp hp=>?_⟩
   have sm:=re1.b.i;refine⟨p,0,hi,rfl,aB,⟨by decide,by decide,(g9 h2).1,(g9 h2).2⟩,jN (by rw[Int.sub_zero];exact h3),λl hl=>?_⟩
   have g3:Grow Hs1 H1 Hs1 (c8 (c8 H1 p (.rng 0 hi)) l (.lst ((List.range (hi - 0).toNat).map λk:Nat=>V.int (0+k)))):=.only sm ((aX hp).trans (aX hl));have hl2:H1 l=none:=(aX hp).free hl;refine q1 _ Hs1 _ g3 ⟨l,_,rfl,hl2,sm.free hl2,aB,_,rfl,?_⟩;unfold rng;exact wk _ λk=>ai.mpr rfl
  |_=>cases e1
end
end L3
namespace L2
open PySem PySem.Spec PyProof.Rows
section
variable{X:Cx}{pins:List (Addr×Obj)}{σ:St}{H:Hp}{s:Shared}{a:Addr}{ob:Obj}{kvs:List (List Key×V)}
theorem aC.swap{H':Hp}{u u':HO}(I:aC X pins σ H s)(e:H a=some u)(e':H' a=some u')(o:∀b,b≠a->H' b=H b)(n1:∀xs,u≠.tup xs)(n2:∀y,u≠.own y)(n3:∀o y,u≠.frz o (.own y))(n4:∀ps,u≠.tbl ps)(n5:∀o v,X.H₀ a≠some (.frz o v))(n6:∀ps,X.H₀ a≠some (.tbl ps))(new:ck X.prog X.w H' s.heap a u'):aC X pins σ H' s:=by
 have ne:∀{b:Addr},H b=none->b≠a:=λz y=>by subst y;rw[e] at z;cases z
 have keep:∀{b:Addr}{v:HO},H b=some v->v≠u->H' b=some v:=λ{b v} z w=>by
  by_cases hb:b=a
  ·subst hb;rw[e] at z;cases z;exact absurd rfl w
  ·rw[o b hb];exact z
 refine⟨I.ok,I.os,I.bare,⟨I.base.keep,I.base.slot,λb x z n hx=>?_,I.base.there,λb xs z=>?_,λb x v z=>?_,λb ps z=>?_⟩,I.loc,I.cell,?_,λx c z=>?_,λp hp=>?_,λb x z=>?_,I.len⟩
 ·have:=I.base.free b x z n hx;rw[o b (ne this)];exact this
 ·exact keep (I.base.tups b xs z) λy=>n1 xs y.symm
 ·by_cases hb:b=a
  ·subst hb;exact absurd z (n5 x v)
  ·rw[o b hb];exact I.base.frzs b x v z
 ·by_cases hb:b=a
  ·subst hb;exact absurd z (n6 ps)
  ·rw[o b hb];exact I.base.tbls b ps z
 ·rw[o _ (ne I.free)];exact I.free
 ·rw[o _ (ne (I.freeC x c z))];exact I.freeC x c z
 ·obtain⟨h1,h2,h3⟩:=I.pin p hp;exact⟨h1,by rw[o _ (ne h2)];exact h2,h3⟩
 ·by_cases hb:b=a
  ·subst hb;rw[e'] at z;cases z;exact new
  ·rw[o b hb] at z;exact(I.hok b x z).stay (λc v _ q=>q) (λc q=>keep q λy=>n2 _ y.symm) (λc xs q=>keep q λy=>n1 _ y.symm) λc oc y q=>keep q λz=>n3 _ _ z.symm
end
end L2
namespace L3
open PySem PySem.Spec PyProof.Rows L2
section
variable{X:Cx}{Γ:Ct}{W:XW}{st:Stmt}{e:Expr}
theorem BD:sJ X Γ W st yB:=λ_ _ _ _ _ _ ⟨_,_,_,_,_,_,e,_⟩=>nomatch e
end
end L3
namespace L2
open PySem PySem.Spec PyProof.Rows PySem.W
section
variable{P:Program}{w:World}{K:Frag}{mg:Str->Option Value}{base:Heap}{N:List Str}{L:lS}{f c c0:Addr}{A:Around}{outer:List Env}{s s1:Shared}{H:Hp}{u:Value}{v x0:V}{y:Str}
theorem Ez(S:lT N L)(hfv:L.fv=[y])(hd:A.handled=none)(e0:lW P w K mg base A outer s H)(hc0:∃o u',s.heap.get? c0=some o/\o.data=.cell (some u')/\RelV x0 u')(hf0:H c0=none)(r:RelV v u)
  (x:Lq s (lM L s.heap.objs.size f c [(y,c0)]) [(y,c0)] L.par u s1):
  aC (AR P w K mg base N L f c [(y,c0)] A outer s H) [] (start N [v,x0]) H s1:=by
 have pre:N.take 2=[L.par,y]:=by have:=S.pre;rw[hfv] at this;exact this
 have hpl:2<=N.length:=by have:=congrArg List.length pre;rw[length_take] at this;simp at this;omega
 have hfy:=S.fvs y (by rw[hfv];exact mem_singleton.mpr rfl)
 obtain⟨m,inc,lk⟩:=x.inc;obtain⟨h1,tk,rfl,hk⟩:=inc.done;have noA:∀b:Addr,b∉(AR P w K mg base N L f c [(y,c0)] A outer s H).ex:=λb z=>absurd (show b∈([]:List Addr) from z) (by simp)
 have eC:(lM L s.heap.objs.size f c [(y,c0)]).cells=cellsFrom (s.heap.objs.size+1) L.scope.names []++[(y,c0)]:=kq _ _ _;have fvc:(lM L s.heap.objs.size f c [(y,c0)]).cells.lookup y=some c0:=by
  rw[eC,kN];cases q:(cellsFrom (s.heap.objs.size+1) L.scope.names []).lookup y with
  |none=>simp[lookup_cons]
  |some d=>
   rcases jQ _ _ _ (PySem.mem_of_lookup q) with z|z
   ·cases z
   ·exact absurd z hfy.2
 have g0:N[0]?=some L.par:=by have q:=congrArg (·[0]?) pre;simp only[List.getElem?_take_of_lt (show 0<2 by omega)] at q;simpa using q
 have g1:N[1]?=some y:=by have q:=congrArg (·[1]?) pre;simp only[List.getElem?_take_of_lt (show 1<2 by omega)] at q;simpa using q
 refine⟨⟨e0.mod,S.kind,rfl,rfl,le_refl _,λy z c h1 h2=>?_,λy' hy=>?_,λy' c' hf h=>?_,λ_=>hd,Around.frames_deeper e0.frames,.inr ⟨rfl,rfl⟩,λb z=>absurd z (noA b),e0.bs,e0.bsz,λb _ _=>noA b,λb z=>absurd z (noA b),e0.funs,e0.frf⟩,
  rfl,e0.bare,Un.kept hk,⟨m,inc.ns,λi y' v' h1 h2 h3=>?_⟩,λy c h=>x.cell y c (PySem.mem_of_lookup h),e0.hok.fresh (le_refl _),λy' c' h=>?_,λp hp=>absurd (show p∈([]:List (Addr×Obj)) from hp) (by simp),e0.hok.kept hk,?_⟩
 ·exact name_of_addr x.apart (PySem.mem_of_lookup h1) (PySem.mem_of_lookup h2)
 ·have hy:L.scope.names.lookup y'=some .cell\/L.scope.names.lookup y'=some .free:=hy;show ∃c',(lM L s.heap.objs.size f c [(y,c0)]).cells.lookup y'=some c';rcases hy with hy|hy
  ·obtain⟨c',q⟩:=o7 (n:=s.heap.objs.size+1) hy;exact⟨c',by rw[eC,kN,q]⟩
  ·have:=S.all y' hy;rw[hfv] at this;rw[mem_singleton.mp this];exact⟨c0,fvc⟩
 ·have hf:L.scope.names.lookup y'=some .cell:=eq_of_beq hf;rcases x.above y' c' (PySem.mem_of_lookup h) with z|z
  ·have e:y'=y:=by simpa using congrArg Prod.fst (mem_singleton.mp z)
   rw[e,hfy.1] at hf;cases hf
  ·exact le_of_lt z
 ·have h2':(start N [v,x0])[i]?=some (some v'):=h2;have h1':N[i]?=some y':=h1;unfold start at h2'
  match i with
  |0=>
   rw[g0] at h1';cases h1';have hv:v'=v:=by simpa using h2'.symm
   subst hv;exact⟨u,r,lk⟩
  |1=>
   rw[g1] at h1';cases h1';have hv:v'=x0:=by simpa using h2'.symm
   subst hv;obtain⟨o,u',hg,hdat,rv⟩:=hc0;exact⟨u',rv,.inr ⟨.inr hfy.1,c0,fvc,⟨o,hk _ _ hg,hdat⟩⟩⟩
  |i+2=>
   rw[getElem?_append_right (by simp),getElem?_replicate] at h2'
   split at h2' <;> cases h2'
 ·rcases x.above y' c' (PySem.mem_of_lookup h) with z|z
  ·have e:c'=c0:=by simpa using congrArg Prod.snd (mem_singleton.mp z)
   rw[e];exact hf0
  ·exact e0.hok.fresh (le_of_lt z)
 ·unfold start;show _=N.length;rw[length_append,length_map,length_replicate];simp;omega
theorem Dw{k:Nat}{a:Addr}{pm ctv:Value}{Q:VK}{t:TE}(S:lT N L)(hfv:L.fv=[y])(hbind:∀(pm:Value)(clos:List (Str×Addr))(c:Addr)(ctv u:Value),bindArgs (kla_fn "<lambda>" L.qual L.params L.body L.scope clos pm (.ref c) ctv) ⟨[u],[]⟩=pure [(L.par,u)])
  (hr:bN (k+1) A) (e0:lW P w K mg base A outer s H) (ha:H a=some (.frz (L.obj [(y,c0)] pm c ctv) (.fnc c L.qual))) (hc0:∃o u',s.heap.get? c0=some o/\o.data=.cell (some u')/\RelV x0 u') (hf0:H c0=none) (r:RelV v u)
  (hb:PE (AR P w K mg base N L a c [(y,c0)] A outer s H) L.body t) (ht:t (start N [v,x0]) H Q):
  codeAny (model P w) A (.call (.ref a) ⟨[u],[]⟩) (CR l3 outer P w H s Q E0) s:=by
 obtain⟨eA,_,oc,vs,tk,hcode,hdd,hv⟩:=e0.hok a _ ha;have hrec:s.heap.CodeRec (.ref c) L.qual:=⟨c,oc,vs,tk,rfl,(e0.hok c _ hcode).1,hdd,hv⟩;have lim:s.heap.NoLimit:=e0.mod.nolimit.keeps λb o e=>(e0.bs b o e).1;refine kla_callFunE hr.depth eA rfl S.co S.gen rfl hrec ?_;rw[hbind];refine wpAny_pure (zd S.kind S.par (λy' c' hm=>?_) (by simp) λenv he s1 x=>?_)
 ·obtain⟨o,u',q,d,_⟩:=hc0;have e:c'=c0:=by simpa using congrArg Prod.snd (mem_singleton.mp hm)
  rw[e];exact⟨some u',o,q,d⟩
 subst he;obtain⟨m,inc,_⟩:=id x.inc;refine⟨lim.keeps inc.keep,kla_codeExpr ?_⟩;have I:=Ez (c:=c) (f:=a) S hfv hr.hd e0 hc0 hf0 r x;exact wpAny_mono (hb [] s1 _ _ _ I ht) (λuu s' ⟨v',H2,J,rv,q⟩=>⟨v',H2,J.os,J.bare,J.base,J.hok,rv,q⟩) λ_ _ z=>z.elim
end
section
variable{X:Cx}{σ:St}{q l S I:Addr}{xs:List V}{kf:Nat->Int}{H0:Hp}{pins:List (Addr×Obj)}
def B6(X:Cx)(σ:St)(H0:Hp)(q:Addr)(xs:List V)(kf:Nat->Int):Prop:=
 ∀(i:Nat)(x:V)(u:Value),xs[i]?=some x->RelV x u->∀(pins:List (Addr×Obj))(s:Shared)(H:Hp),aC X pins σ H s->Same H0 H->
  wpAny (model X.prog X.w) X.A.in1 (call (.ref q) [u]) (λr s'=>(∃t,r=.int (kf i) t)/\∃H',aC X pins σ H' s'/\Same H0 H') (λ_ _=>False) s
structure rB(X:Cx)(pins:List (Addr×Obj))(a:Addr):Prop where
 ne:a≠X.env.locals
 up:X.s₀.heap.objs.size<=a
 ce:∀x c,X.env.cells.lookup x=some c->c≠a
 pn:∀p∈X.pn++pins,p.1≠a
 fs:a∉X.fs
theorem rB.of{H:Hp}{s:Shared}(J:aC X pins σ H s){a:Addr}(h:s.heap.objs.size<=a):rB X pins a where
 ne:=ne_of_gt (lt_of_lt_of_le J.lt h)
 up:=le_trans J.sz h
 ce:=λx c e z=>by
  obtain⟨v,o,g,_⟩:=J.cell x c e;exact lt_irrefl _ (lt_of_lt_of_le (lt_size g) (z▸h))
 pn:=λp hp z=>lt_irrefl _ (lt_of_lt_of_le (lt_size (J.pin p hp).1) (z▸h))
 fs:=J.nofs h
theorem rB.turned{H:Hp}{s:Shared}{h':Heap}{t':Nat}{a:Addr}(o:rB X pins a)(J:aC X pins σ H s)(n:H a=none)(k:∀b ob,b≠a->s.heap.get? b=some ob->h'.get? b=some ob):aC X pins σ H {s with heap:=h',toks:=t'}:=
 J.turned k n o.ne (.inr o.up) o.ce o.pn
theorem rB.pin{H:Hp}{s:Shared}{a b:Addr}{oa ob:Obj}(A:rB X pins a)(B:rB X pins b)(J:aC X pins σ H s)(na:H a=none)(nb:H b=none)(ga:s.heap.get? a=some oa)(gb:s.heap.get? b=some ob)(da:∀v,oa.data≠.cell v)(db:∀v,ob.data≠.cell v):aC X ((a,oa)::(b,ob)::pins) σ H s:=
 J.pins_of λp hp=>by
  rcases mem_cons.mp hp with rfl|hp
  ·exact⟨ga,na,A.ne,A.fs,da⟩
  rcases mem_cons.mp hp with rfl|hp
  ·exact⟨gb,nb,B.ne,B.fs,db⟩
  ·exact J.pin p (mem_append_right _ hp)
theorem Cg(hc:X.calm=true)(sq:kY X.K H0 l xs)(hlI:l≠I)(hSI:S≠I)(turn:B6 X σ H0 q xs kf)(oI:rB X pins I)(oS:rB X pins S){R:Result->Shared->Prop}
  (hR:∀i x u s' H',xs[i]?=some x->RelV x u->(∀j,j<xs.length->kf i ≥ kf j/\(j<i->kf i > kf j))->aC X pins σ H' s'->Same H0 H'->R (.ok (.ret u)) s'):
  ∀(r j i:Nat)(s:Shared)(H:Hp)(xb:V)(vb:Value)(tb:Tok)(c:Nat),xs.length - (j+1)=r->j+1<=xs.length->aC X pins σ H s->Same H0 H->H I=none->H S=none->s.heap.IsListIter I l (j+1)->
   s.heap.get? S=some (seqObj "list" #[vb,.int (kf i) tb] c)->xs[i]?=some xb->RelV xb vb->i<=j->(∀j',j'<=j->kf i ≥ kf j'/\(j'<i->kf i > kf j'))->
   codeAny (model X.prog X.w) X.A (.builtin "max.loop" ⟨[.ref I,.ref q,.ref S],[]⟩) R s:=by
 have hname:(toString "max" ++ toString ".loop" : String) = "max.loop" := by decide
 intro r
 induction r with
 |zero=>
  intro j i s H xb vb tb c hr hj J sm nI nS hit gS hxb rb hij hbest;obtain⟨its,rv,pl,hz⟩:=J.list (Same.seq sm sq);have hl:=rv.length;have W:=Walks.list (prog:=X.prog) (w:=X.w) (A:=X.A.in1) (J.ok.hd hc) I l hlI its.toArray;have hsz:its.toArray.size=j+1:=by rw[size_toArray];omega
  refine codeAny_builtin PySem.F.entry_max_loop ?_;rw[Around.under_plainId PySem.F.plain_max_loop _];show wpAny _ X.A.in1 (seqItems? (.ref S) >>= _) _ _ _;refine wpAny_bind (wpAny_seqItems gS rfl ?_);show wpAny _ X.A.in1 (tryCatch (pyNext (.ref I)) _ >>= _) _ _ _;refine wpAny_bind (wpAny_tryCatch (W.done _ _ _ ⟨by rw[hsz];exact hit,pl.isList⟩ λh' tk' hk'=>?_))
  have J1:aC X pins σ H {s with heap:=h',toks:=tk'}:=oI.turned J nI λb o hb e=>hk' b o (by simpa using hb) e
  have gS':=hk' S _ (by simpa using hSI) gS
  show wpAny _ X.A.in1 (updateSeq S (λ_=>#[]) >>= _) _ _ _;refine wpAny_bind ?_;refine wpAny_updateSeq gS' rfl (wpAny_bind (wpAny_letGo (wpAny_pure ?_)));exact hR i xb vb _ H hxb rb (λj' hj'=>hbest j' (by omega)) (oS.turned (t':=tk') J1 nS λb o hb e=>(get?_update_other _ _ (Ne.symm hb)).trans e) sm
 |succ r ih=>
  intro j i s H xb vb tb c hr hj J sm nI nS hit gS hxb rb hij hbest;have hlt:j+1<xs.length:=by omega
  obtain⟨its,rv,pl,hz⟩:=J.list (Same.seq sm sq);have hl:=rv.length;have W:=Walks.list (prog:=X.prog) (w:=X.w) (A:=X.A.in1) (J.ok.hd hc) I l hlI its.toArray;refine codeAny_builtin PySem.F.entry_max_loop ?_;rw[Around.under_plainId PySem.F.plain_max_loop _];show wpAny _ X.A.in1 (seqItems? (.ref S) >>= _) _ _ _;refine wpAny_bind (wpAny_seqItems gS rfl ?_);show wpAny _ X.A.in1 (tryCatch (pyNext (.ref I)) _ >>= _) _ _ _;refine wpAny_bind (wpAny_tryCatch (W.item (j+1) _ _ _ (by rw[size_toArray];omega) ⟨hit,pl.isList⟩ λv h' tk' hP hst' hk'=>?_))
  have hv:its[j+1]?=some v:=by simpa using hP
  obtain⟨xv,hxv,rxv⟩:∃x,xs[j+1]?=some x/\RelV x v:=by
   obtain⟨u,hu,ru⟩:=rv.get (i:=j+1) (x:=xs[j+1]) (getElem?_eq_getElem hlt);rw[hv] at hu;cases hu;exact⟨_,getElem?_eq_getElem hlt,ru⟩
  obtain⟨oI',hoI',hoc,hod⟩:=id hst'.1;have J1:aC X pins σ H {s with heap:=h',toks:=tk'}:=oI.turned J nI λb o hb e=>hk' b o (by simpa using hb) e
  have gS':=hk' S _ (by simpa using hSI) gS
  have J2:=oS.pin oI J1 nS nI gS' hoI' (λv=>nofun) (by rw[hod];exact λv=>nofun)
  show wpAny _ X.A.in1 (tryCatch (holding [v] (call (.ref q) [v])) _ >>= _) _ _ _;refine wpAny_bind (wpAny_tryCatch (wpAny_holding (wpAny_mono (turn (j+1) xv v hxv rxv _ _ _ J2 sm) (λx s'' he=>?_) λ_ _ hF=>hF.elim)));obtain⟨⟨t2,rfl⟩,H2,J3,sm2⟩:=he;obtain⟨gS2,nS2,_⟩:=J3.pin (S,_) (mem_append_right _ (.head _));obtain⟨gI2,nI2,_⟩:=J3.pin (I,_) (mem_append_right _ (.tail _ (.head _)));have J4:aC X pins σ H2 s'':=J3.pins_of λp hp=>J3.pin p (mem_append_right _ (.tail _ (.tail _ hp)));have hit2:s''.heap.IsListIter I l (j+1+1):=⟨oI',gI2,hoc,hod⟩;show wpAny _ X.A.in1 (tryCatch (holding [v,.int (kf (j+1)) t2] (richCompare .Gt (.int (kf (j+1)) t2) (.int (kf i) tb) >>= _)) _ >>= _) _ _ _;refine wpAny_bind (wpAny_tryCatch (wpAny_holding (wpAny_bind (CmpOf.ints_gt (prog:=X.prog) (w:=X.w) (A:=X.A.in1) (P:=λi v=>∃t,v=.int (kf i) t) kf (λi v h=>h) (j+1) i _ _ _ _ _ ⟨t2,rfl⟩ ⟨tb,rfl⟩ ?_))));refine wpAny_bind (wpAny_holding (wpAny_truthy_bool ?_));refine wpAny_bind (wpAny_letGo (wpAny_pure ?_));by_cases hb':kf (j+1) > kf i
  ·obtain⟨c2,hc2⟩:∃c2,(s''.heap.update S (Obj.mapSeq λ_=>#[v,.int (kf (j+1)) t2])).get? S=some (seqObj "list" #[v,.int (kf (j+1)) t2] c2):=⟨_,get?_update_seq gS2 λ_=>#[v,.int (kf (j+1)) t2]⟩;simp only[hb',decide_true,if_true];refine wpAny_bind ?_;refine wpAny_updateSeq gS2 rfl (wpAny_bind (wpAny_letGo ?_));rw[hname];refine wpAny_pure ⟨plainId_quiet PySem.F.plain_max_loop _,ih (j+1) (j+1) _ H2 xv v t2 c2 (by omega) hlt (oS.turned (t':=s''.toks) J4 nS2 λb o hb e=>(get?_update_other _ _ (Ne.symm hb)).trans e) sm2 nI2 nS2 ⟨oI',(get?_update_other _ _ hSI).trans gI2,hoc,hod⟩ hc2 hxv rxv (le_refl _) λj' hj'=>?_⟩
   by_cases e:j'=j+1
   ·subst e;exact⟨by omega,λ_=>by omega⟩
   ·have hb1:=hbest j' (by omega)
    have hb2:=hb1.1;exact⟨by omega,λ_=>by omega⟩
  ·simp only[hb',decide_false,Bool.false_eq_true,if_false];refine wpAny_bind (wpAny_letGo ?_);rw[hname];refine wpAny_pure ⟨plainId_quiet PySem.F.plain_max_loop _,ih (j+1) i _ H2 xb vb tb c (by omega) hlt J4 sm2 nI2 nS2 hit2 gS2 hxb rb (by omega) λj' hj'=>?_⟩
   by_cases e:j'=j+1
   ·subst e;exact⟨by omega,λ_=>by omega⟩
   ·exact hbest j' (by omega)
theorem D0{s:Shared}{Q:Value->Shared->Prop}{E:Value->Shared->Prop}(hc:X.calm=true)(J:aC X pins σ H0 s)(sq:kY X.K H0 l xs)(hne:0<xs.length)(turn:B6 X σ H0 q xs kf)
  (hQ:∀i x u s' H',xs[i]?=some x->RelV x u->(∀j,j<xs.length->kf i ≥ kf j/\(j<i->kf i > kf j))->aC X pins σ H' s'->Same H0 H'->Q u s'):
  wpAny (model X.prog X.w) X.A (call (.builtin "max") [.ref l] [(Str.ofString "key",.ref q)]) Q E s:=by
 have hname:(toString "max" ++ toString ".loop" : String) = "max.loop" := by decide
 obtain⟨its,rv,pl,hz⟩:=J.list sq;have hl:=rv.length;have hls:=pl.isList;obtain⟨ol,hol,_⟩:=id hls;have hll:l<s.heap.objs.size:=lt_size hol;refine kmk_tree PySem.F.kind_max PySem.F.plain_max PySem.F.entry_max (kmk_max_key _ _) ?_;show wpAny _ X.A.in1 (Builtin.Builtins.bindParams "max" ["key","default"] 0 ⟨[],[(Str.ofString "key",.ref q)]⟩ >>= _) _ _ s;refine wpAny_bind (wpAny_of_eq (show Builtin.Builtins.bindParams "max" ["key","default"] 0 ⟨[],[(Str.ofString "key",.ref q)]⟩=pure [some (.ref q),none] from rfl) ?_);refine wpAny_bind (wpAny_pure ?_);refine wpAny_bind (wpAny_pyIter_list hls ?_);refine wpAny_bind (wpAny_newList ?_ (zero_le _));rw[hname];generalize hO:({cls:=.type "list_iterator",data:=.fields #[.ref l,.int 0 0]}:Obj)=O0;have hS:(s.heap.push O0).objs.size=s.heap.objs.size+1:=size_push ..;rw[hS];have hlI:l≠s.heap.objs.size:=ne_of_lt hll;have hSI:s.heap.objs.size+1≠s.heap.objs.size:=Nat.succ_ne_self _;have oI:rB X pins s.heap.objs.size:=.of J (le_refl _);have oS:rB X pins (s.heap.objs.size+1):=.of J (Nat.le_succ _);have J0:aC X pins σ H0 {s with heap:=(s.heap.push O0).push (seqObj "list" #[] 0)}:=J.kept (t':=s.toks) λb o e=>get?_push_of_some _ (get?_push_of_some _ e);have nI:H0 s.heap.objs.size=none:=J.hok.fresh (le_refl _);have nS:H0 (s.heap.objs.size+1)=none:=J.hok.fresh (Nat.le_succ _);have gI:((s.heap.push O0).push (seqObj "list" #[] 0)).get? s.heap.objs.size=some O0:=get?_push_of_some _ (get?_push_size _ (by rw[←hO];rfl))
 have gS:((s.heap.push O0).push (seqObj "list" #[] 0)).get? (s.heap.objs.size+1)=some (seqObj "list" #[] 0):=by rw[←hS];exact get?_push_size _ rfl
 refine wpAny_pure ⟨plainId_quiet PySem.F.plain_max_loop _,?_⟩;have W:=Walks.list (prog:=X.prog) (w:=X.w) (A:=X.A.in1) (J.ok.hd hc) s.heap.objs.size l hlI its.toArray;refine codeAny_builtin PySem.F.entry_max_loop ?_;rw[Around.under_plainId PySem.F.plain_max_loop _];show wpAny _ X.A.in1 (seqItems? (.ref _) >>= _) _ _ _;refine wpAny_bind (wpAny_seqItems gS rfl ?_);show wpAny _ X.A.in1 (tryCatch (pyNext (.ref s.heap.objs.size)) _ >>= _) _ _ _;refine wpAny_bind (wpAny_tryCatch (W.item 0 _ _ _ (by rw[size_toArray];omega) ⟨⟨_,gI,by rw[←hO],by rw[←hO];rfl⟩,(hls.push _).push _⟩ λv h' tk' hP hst' hk'=>?_))
 have hv:its[0]?=some v:=by simpa using hP
 obtain⟨xv,hxv,rxv⟩:∃x,xs[0]?=some x/\RelV x v:=by
  obtain⟨u,hu,ru⟩:=rv.get (i:=0) (x:=xs[0]) (getElem?_eq_getElem hne);rw[hv] at hu;cases hu;exact⟨_,getElem?_eq_getElem hne,ru⟩
 obtain⟨oI',hoI',hoc,hod⟩:=id hst'.1;have J1:aC X pins σ H0 {s with heap:=h',toks:=tk'}:=oI.turned (s:={s with heap:=(s.heap.push O0).push (seqObj "list" #[] 0)}) J0 nI λb o hb e=>hk' b o (by simpa using hb) e
 have gS':=hk' _ _ (by simpa using hSI) gS
 have J2:=oS.pin oI J1 nS nI gS' hoI' (λv=>nofun) (by rw[hod];exact λv=>nofun)
 show wpAny _ X.A.in1 (tryCatch (holding [v] (call (.ref q) [v])) _ >>= _) _ _ _;refine wpAny_bind (wpAny_tryCatch (wpAny_holding (wpAny_mono (turn 0 xv v hxv rxv _ _ _ J2 (.refl _)) (λx s'' he=>?_) λ_ _ hF=>hF.elim)));obtain⟨⟨t2,rfl⟩,H2,J3,sm2⟩:=he;obtain⟨gS2,nS2,_⟩:=J3.pin (s.heap.objs.size+1,_) (mem_append_right _ (.head _));obtain⟨gI2,nI2,_⟩:=J3.pin (s.heap.objs.size,_) (mem_append_right _ (.tail _ (.head _)));have J4:aC X pins σ H2 s'':=J3.pins_of λp hp=>J3.pin p (mem_append_right _ (.tail _ (.tail _ hp)));obtain⟨c2,hc2⟩:∃c2,(s''.heap.update (s.heap.objs.size+1) (Obj.mapSeq λ_=>#[v,.int (kf 0) t2])).get? (s.heap.objs.size+1)=some (seqObj "list" #[v,.int (kf 0) t2] c2):=⟨_,get?_update_seq gS2 λ_=>#[v,.int (kf 0) t2]⟩;show wpAny _ X.A.in1 (updateSeq (s.heap.objs.size+1) (λ_=>#[v,.int (kf 0) t2]) >>= _) _ _ _;refine wpAny_bind ?_;refine wpAny_updateSeq gS2 rfl ?_;rw[hname];refine wpAny_pure ⟨plainId_quiet PySem.F.plain_max_loop _,Cg hc sq hlI hSI turn oI oS hQ _ 0 0 _ H2 xv v t2 c2 rfl hne (oS.turned (t':=s''.toks) J4 nS2 λb o hb e=>(get?_update_other _ _ (Ne.symm hb)).trans e) sm2 nI2 nS2 ⟨oI',(get?_update_other _ _ hSI).trans gI2,hoc,hod⟩ hc2 hxv rxv (le_refl _) λj' hj'=>?_⟩;have e:j'=0:=by omega
 subst e;exact⟨by omega,λh=>absurd h (lt_irrefl _)⟩
end
end L2
namespace L3
open PySem PySem.Spec PyProof.Rows PySem.W L2
theorem CK{P:Program}{w:World}{K:Frag}{mg:Str->Option Value}{base:Heap}{Γ:Ct}{x:Str}{st:Stmt}{N ps:List Str}{k j:Nat}{cc:Addr}{g:MC}(L:B5 K mg x st ps cc)(S:aq N ps (ag st))(hN:ps.length<=N.length)
  (body:∀(f:Addr)(A:Around)(outer:List PySem.Env)(s:Shared)(H:Hp)(E:XK),bN k (A.deeper (envOfC x (ag st) s.heap.objs.size f (.ref cc)))->l0 (lP l3 P w K mg base N x (ag st) f (.ref cc) A outer s H E).nox Γ W0 (aR st) g):
  Da P w K mg base Γ (k+1) x ps (CL j ps.length N.length g):=by
 obtain⟨f,fd,F,hm,hb,hc⟩:=L.ex;exact⟨f,fd,Hc F S hN λcdv e=>by rw[hc] at e;subst e;exact body f,hm,F.kp,hb⟩
def KH:Stmt->List Stmt
 |.While _ b _ _=>b
 |_=>[]
def Jz:Stmt->Expr
 |.Assign _ (.Call _ _ (k::_) _) _=>k.value
 |_=>.Name "" ⟨0,0,0,0⟩
section
variable{X:Cx}{Γ:Ct}
theorem FW{a:Expr}{ga gb:ME}{L:lS}{P cc:Addr}{good:Pos->Option Str}{y:Str}{N:List Str}{i k:Nat}{p pos lpos kp:Pos}(hK:X.K=Γ.K)(hc:X.calm=true)(hg:Gl X "max")(hm:X.mg "max" = none)(ha:PD X Γ W0 a ga)
  (hi:X.N[i]?=some y) (hy:X.env.scope.names.lookup y=some .cell) (htb:Γ.tb P=some (.tab good)) (hgp:vP good) (hC:PySem.W.CodeHd X.base cc P) (hcode:X.env.code=.ref cc) (hB:ya X.mg X.base) (hq:X.env.qual ++ "<lambda>" = L.qual) (hgl:good lpos=some L.qual)
  (hcl:closureFor L.scope X.env=pure (L.fv.zip (L.fv.filterMap (X.env.cells.lookup ·)))) (hdef:defaultsOf L.params X.env=([],[])) (S:lT N L) (hN:N.length=2) (hfv:L.fv=[y])
  (hbind:∀(pm:Value)(clos:List (Str×Addr))(c:Addr)(ctv u:Value),bindArgs (kla_fn "<lambda>" L.qual L.params L.body L.scope clos pm (.ref c) ctv) ⟨[u],[]⟩=pure [(L.par,u)]) (hr:bN (k+2) X.A)
  (hb:∀(A:Around)(outer:List PySem.Env)(s:Shared)(H:Hp)(f c:Addr)(clos:List (Str×Addr)),bN k (A.deeper (lM L s.heap.objs.size f c clos))->PD (AR X.prog X.w X.K X.mg X.base N L f c clos A outer s H) Γ W0 L.body gb)
  (hs:starEach [a] X.env=(false,eval a X.env)::starEach [] X.env:=by rfl) (he:backTo pos (starEach [a] X.env)=(false,eval a X.env)::backTo pos (starEach [] X.env):=by rfl) (hpl:(backTo pos (starEach [a] X.env)).any (·.1)=false:=by rfl):
  PD X Γ W0 (.Call (.Name "max" p) [a] [⟨some "key",.Lambda L.params L.body L.scope lpos,kp⟩] pos) (xO i ga gb):=by
 intro pins s σ H Q I ⟨B0,B1,Hs,ρ,r,re,e,q⟩;obtain⟨c0,hc0⟩:=I.ok.has y (.inl hy);have hcl':closureFor L.scope X.env=pure [(y,c0)]:=by rw[hcl,hfv];simp[hc0]
 refine wpAny_Call_Name_kw (lD I hg hm L3.Fc ?_ (by decide) (by decide))
 have step:=bV re e q;refine callWith_kw (dA ((br ha dY hs) pos pins s σ H (λvs H2=>∃v Hs1 d,vs=[v]/\Grow Hs H Hs1 H2/\Rep Γ Hs1 d v/\(match d,ρ[i]? with|.lst ds,some (some (.own o))=>(wZ (iu gb o) ds).bind okD|_,_=>none)=some r/\RQ Γ W0 Hs1 H2 r Q/\RE Γ B0 B1 Hs1 H2 σ ρ) I (step.mono λv H1 ⟨Hs1,d,g1,re1,rp,e1,q1⟩=>⟨v,Hs1,d,rfl,g1,rp,e1,q1,re1⟩)) λus s1 ⟨vs,H1,I1,r1,v,Hs1,d,ev,g1,rp,e1,q1,re1⟩=>?_) he hpl rfl rfl
 subst ev;obtain⟨u,rfl,ru⟩:=j0 r1;split at e1
 ·rename_i ds o hρ;cases hx:wZ (iu gb o) ds with
  |none=>rw[hx] at e1;cases e1
  |some dm=>
   rw[hx] at e1;cases e1;obtain⟨b,xs,rfl,sq,rl⟩:=bH.mp rp;cases ru;obtain⟨ae,ho,e2,e3,e4,e5,e6⟩:=re1.own i _ hρ;obtain⟨hne,hkeys,hbest⟩:=Ci hx;have hlen:=rl.length;refine dA ((Ar (nm:=some "key") (kpos:=kp) (HR hgp hC hcode hB hq hgl hcl' hdef) DJ) pos pins s1 σ H1 (λvs H2=>∃a pm c ctv,vs=[.ref a]/\Same H1 H2/\H2 a=some (.frz (L.obj [(y,c0)] pm c ctv) (.fnc c L.qual))) I1 ⟨re1.b.i _ _ (re1.tb _ _ htb),λH0 a pm c ctv sm n=>⟨a,pm,c,ctv,rfl,sm.trans (aX n),aB⟩⟩) λws s2 ⟨zs,H2,I2,rz,a,pm,c,ctv,ez,sm2,hq2⟩=>?_;subst ez;obtain⟨u',rfl,ru'⟩:=j0 rz;cases ru';have re2:=re1.grow (.only re1.b.i sm2);have kfe:∀(j:Nat)(x:D)(n:Int),ds[j]?=some x->iu gb o x=some n->((ds[j]?).bind (iu gb o)).getD 0=n:=λj x n h1 h2=>by rw[h1];show(iu gb o x).getD 0=n;rw[h2];rfl
   refine D0 (X:=X) (σ:=σ) (kf:=λj=>((ds[j]?).bind (iu gb o)).getD 0) hc I2 (by rw[hK];exact Same.seq (re2.b.i) sq) (by omega) (λj x u hxj rux pins' s' H' J sm=>?_) (λj x u s' H' hxj rux hb' J sm=>?_)
   ·have hj:j<ds.length:=by have:=(List.getElem?_eq_some_iff.mp hxj).1;omega
    obtain⟨n,hn⟩:=hkeys ds[j] (getElem_mem hj);have hkn:((ds[j]?).bind (iu gb o)).getD 0=n:=kfe j _ n (getElem?_eq_getElem hj) hn;have hrep:Rep Γ Hs1 ds[j] x:=by
     obtain⟨x',hx',rx'⟩:=rl.get (getElem?_eq_getElem hj);rw[hxj] at hx';cases hx';exact rx'
    have hgb:gb [some (.sh ds[j]),some (.own o)]=some (.ok (.sh (.int n))):=by
     unfold iu at hn;split at hn
     ·rename_i m hm;cases hn;exact hm
     ·cases hn
    have re3:=re2.grow (.only re2.b.i sm);have hcell:∃oc uc,s'.heap.get? c0=some oc/\oc.data=.cell (some uc)/\RelV (.ref ae) uc:=by
     obtain⟨m,_,hl⟩:=J.loc;obtain⟨uc,r',lk⟩:=hl i y (.ref ae) hi e2 (.inr (.inl hy));rcases lk with⟨z,_⟩|⟨_,c',h1,oc,h2,h3⟩
     ·have z:X.env.scope.names.lookup y=some .local:=z;rw[hy] at z;cases z
     ·rw[hc0] at h1;cases h1;exact⟨oc,uc,h2,h3,r'⟩
    have sz:(L2.start N [x,.ref ae])=[some x,some (.ref ae)]:=by
     unfold L2.start;rw[hN];rfl
    refine wpAny_call (codeAny_mono (Dw (k:=k) (Q:=λv' H''=>v'=.int n/\Same H' H'') S hfv hbind (bN.in1 hr) J.env0.in1 (sm _ _ hq2) hcell (J.freeC y c0 hc0) rux (hb _ _ _ _ _ _ _ ((bN.in1 hr).deeper _)) ⟨B0,B1,Hs1,[some (.sh ds[j]),some (.own o)],_,?_,hgb,λv' Hs' H'' g rs=>⟨ai.mp (show Rep Γ Hs' (.int n) v' from rs),g.h⟩⟩) λr s'' hq=>?_)
    ·rw[sz];refine⟨re3.b,λt d ht=>?_,λt o' ht=>?_,λt t' o1 o2 z hne h1 h2 _=>?_,rfl,re3.tb⟩
     ·match t with
      |0=>cases ht;exact⟨x,rfl,hrep⟩
      |1=>cases ht
      |t+2=>simp at ht
     ·match t with
      |0=>cases ht
      |1=>
       cases ht;have:=re3.own i _ hρ;rw[e2] at this;exact this
      |t+2=>simp at ht
     ·match t,t' with
      |0,_=>cases h1
      |t+2,_=>simp at h1
      |1,0=>cases h2
      |1,1=>exact absurd rfl hne
      |1,t'+2=>simp at h2
    ·cases r with
     |error e=>exact hq.elim
     |ok fl=>
      cases fl with
      |ret u=>
       obtain⟨v',H'',J',rv',ev',sm'⟩:=J.after hq;subst ev';obtain⟨t,rfl⟩:=rv';exact⟨⟨t,by show Value.int n t=.int (((ds[j]?).bind (iu gb o)).getD 0) t;rw[hkn]⟩,H'',J',sm.trans sm'⟩
      |next=>exact False.elim hq
      |brk=>exact False.elim hq
      |cont=>exact False.elim hq
   ·have hj:j<ds.length:=by have:=(List.getElem?_eq_some_iff.mp hxj).1;omega
    have hd:=hbest _ kfe j hj λj' hj'=>hb' j' (by omega)
    have hrep:Rep Γ Hs1 dm x:=by
     obtain⟨x',hx',rx'⟩:=rl.get hd;rw[hxj] at hx';cases hx';exact rx'
    exact⟨x,H',J,rux,q1 x Hs1 H' (.only re1.b.i (sm2.trans sm)) (ic.of hrep)⟩
 ·cases e1
theorem BJ{W:XW}{a:Expr}{g:ME}{p p' pos' pos:Pos}(hK:X.K=Γ.K)(hc:X.calm=true)(hg:Gl X "len")(hm:X.mg "len" = none)(hg2:Gl X "set")(hm2:X.mg "set" = none)(ha:PD X Γ W a g)
  (hs1:starEach [a] X.env=(false,eval a X.env)::starEach [] X.env:=by rfl) (hpl:(backTo pos' (starEach [] X.env)).any (·.1)=false:=by rfl)
  (hs3:starEach [.Call (.Name "set" p') [a] [] pos'] X.env=(false,eval (.Call (.Name "set" p') [a] [] pos') X.env)::starEach [] X.env:=by rfl) (hpl2:(backTo pos (starEach [] X.env)).any (·.1)=false:=by rfl):
  PD X Γ W (.Call (.Name "len" p) [.Call (.Name "set" p') [a] [] pos'] [] pos) (l5 vz g):=
 PE.imp (lu D2 hg hm (by decide +kernel) (br (gA (rj hc (SetN X.prog X.w)) hg2 hm2 tY (br ha dY hs1) (by decide) (by decide) hs1 hpl) dY hs3) (by decide) (by decide) hs3 hpl2) λ_ _ σ H Q _ ⟨B0,B1,Hs,ρ,r,re,e,q⟩=>by
  refine(bV re e q).mono λv H1 ⟨Hs1,d,g1,re1,rp,e1,q1⟩=>?_;cases d with
  |lst ds=>
   have e1:(intsOf ds).bind (λns=>if ns.length<=32 then okI (ka ns).length else none)=some r:=e1;cases hi:intsOf ds with
   |none=>rw[hi] at e1;cases e1
   |some ns=>
    rw[hi] at e1;obtain⟨hf,rfl⟩:=b0 (c:=ns.length<=32) e1;obtain⟨b,xs,rfl,sq,rl⟩:=bH.mp rp;have ex:=rl.intsOf hi;subst ex;have sm:=re1.b.i;refine⟨b,ns,rfl,by rw[hK];exact Same.seq sm sq,Hq hf,λa ks ha hm nd=>?_⟩
    have h1:ks.length<=ns.length:=List.Nodup.length_le_of_subset nd λx hx=>(hm x).mp hx;have h2:ks.length<=(ka ns).length:=List.Nodup.length_le_of_subset nd λx hx=>dJ.mpr ((hm x).mp hx);have h3:(ka ns).length<=ks.length:=List.Nodup.length_le_of_subset gD λx hx=>(hm x).mpr (dJ.mp hx);refine⟨a,ks,rfl,aB,by omega,q1 _ Hs1 _ (.only sm (aX ha)) (ic.of (ai.mpr ?_))⟩
    rw[show(ka ns).length=ks.length by omega]
  |_=>cases e1
theorem HY{i k:Nat}{x:Str}{ps:List Str}{F:MF}{e:Expr}{es:List Expr}{gs hs:List ME}{p pos:Pos}(h:Da X.prog X.w X.K X.mg X.base Γ k x ps F)(hr:bN k X.A)(hg:Gl X x)(ha:PA X (e::es) (om Γ i hs gs))(hdb:(x == ("__debug__":Str))=false:=by decide)(he:starEach (e::es) X.env=(false,eval e X.env)::starEach es X.env:=by rfl)(hpl:(backTo pos (starEach es X.env)).any (·.1)=false:=by rfl):
  PD X Γ W0 (.Call (.Name x p) (e::es) [] pos) (r6 i F gs hs):=by
 obtain⟨f,fd,G,hm,hk,hb⟩:=h;refine PE.imp (uE (E:=E0) (dvs:=[]) (ds:=[]) G hr hg hm hk hb .nil oZ ha hdb he hpl) λ_ _ σ H Q _ ⟨B0,B1,Hs,ρ,r,re,e,q⟩=>?_;unfold r6 at e;cases hc:ir i F gs hs ρ with
 |none=>rw[hc] at e;cases e
 |some pr=>
  rw[hc] at e;dsimp only[Option.bind_some] at e;cases h1:iy i ρ with
  |none=>rw[h1] at e;cases e
  |some c=>
   rw[h1] at e;dsimp only[Option.bind_some] at e;cases h2:iy i pr.2 with
   |none=>rw[h2] at e;cases e
   |some c'=>
    rw[h2] at e;obtain⟨hcc,rfl⟩:=b0 (c:=c.2=c'.2) e;obtain⟨o,ds,es',o',hd,e1,e2,e3,eρ⟩:=qP (d:=pr.1) (ρ':=pr.2) hc;obtain⟨hd1,hk1⟩:=jh (o:=c.1) (kvs:=c.2) h1;obtain⟨hd2,hk2⟩:=jh (o:=c'.1) (kvs:=c'.2) h2;rw[hd] at hd1;cases hd1;have hil:i<ρ.length:=(List.getElem?_eq_some_iff.mp hd).1;rw[eρ,getElem?_set_self hil] at hd2;have hd3:c.1.put o'=c'.1:=by injection hd2 with z;injection z with z;injection z
    rw[←hd3] at hk2;obtain⟨a,ho,f1,f2,f3,f4,f5⟩:=re.own i _ hd;refine kS gs (λvs H1 ⟨Hs1,xs,ys,g1,ev,r1,r2⟩=>?_) (n8 gs re e1 e2 f1);show KI Γ F (vs++[]) H1 Q;rw[append_nil];have re1:=re.grow g1;refine⟨a,xs,ys,Hs1,c.1.core,ho,ds,es',pr.1,o',ev,re1.b.i,g1.none f3 f4,g1.h _ _ f4,(f5.mono g1.s).core,r1,r2,e3,λv Hs' H' ho' gx hn hh ro rp=>q v Hs' H' (g1.trans ⟨gx.s,λb u eb=>?_,gx.i,gx.n⟩) (ic.of rp),re1.tb⟩;by_cases hba:b=a
    ·subst hba;have z1:=f5.dic hk1;have z2:=(fP.put f5 ro).dic hk2;rw[g1.h _ _ f4] at eb;cases eb;rw[hh,z1,z2,hcc]
    ·exact gx.h b u hba eb
end
theorem FZ{X:Cx}{Γ:Ct}{W:XW}{n:Nat}(hK:X.K=Γ.K)(hu:X.A.units+(n+1)<cLine):iU X (compareOp .NotEq) (rD Γ W (CT n)):=λpins s σ H x y v u Q I rx ry ⟨Hs,d1,d2,r,sm,r1,r2,e,q⟩=>by
 unfold CT at e;split at e
 ·rename_i xs ys;cases h:kl (sD n) xs ys with
  |none=>rw[h] at e;cases e
  |some b=>
   rw[h] at e;cases e;have ih:=xM hK I n X.A.in1 (by show X.A.units+1+n<cLine;omega)
   obtain⟨a,vs,rfl,q1,l1⟩:=bF.mp (r1.mono sm);obtain⟨a',ws,rfl,q2,l2⟩:=bF.mp (r2.mono sm);cases rx;cases ry;obtain⟨its,v1,p1,_⟩:=I.tuple (by rw[hK];exact q1)
   obtain⟨its2,v2,p2,_⟩:=I.tuple (by rw[hK];exact q2)
   have e:=PySem.SeqAt.RcNeAt.tuples p1 p2 (A:=X.A) (by omega) (mX n ih h l1 l2 v1 v2)
   rw[size_toArray,size_toArray,←v1.length,←v2.length,←l1.length,←l2.length,←nY _ xs ys b h] at e;exact e X.prog X.w X.xe _ ⟨.bl (!b),H,I,rfl,gq sm q (cT.mpr rfl)⟩
 ·cases e
end L3
namespace L3
open PySem
section
variable{ρ ρ' ρ1:MEnv}{a b c:ME}{x y:MC}{o:Option oq}{s t:S}{r:Option R}
theorem c9(h:x ρ=some (.ret s)):aw x y ρ=some (.ret s):=by unfold aw;rw[h]
theorem a9(h:x ρ=some (.next ρ'))(h2:y ρ'=o):aw x y ρ=o:=by unfold aw;rw[h];exact h2
theorem gG{u v:MC}(h:c ρ=okB true)(h2:u ρ=o):iq c u v ρ=o:=by unfold iq;rw[h];exact h2
theorem aJ{u v:MC}(h:c ρ=okB false)(h2:v ρ=o):iq c u v ρ=o:=by unfold iq;rw[h];exact h2
theorem ay{i:Nat}(h:a ρ=some (.ok s)):aL i a ρ=some (.next (ρ.set i (some s))):=by unfold aL;rw[h];rfl
theorem aN(h:a ρ=some (.ok s)):aV a ρ=some (.ret s):=by unfold aV;rw[h];rfl
theorem cI{i:Nat}(h:x (dem i ρ)=o):eV i x ρ=o:=h
theorem fq{i:Nat}{ds:List D}(h0:ρ[i]?=some (some (.own (.lst ds))))(h:a ρ=some (.ok s))(hl:ds.length<lim):bj i a ρ=some (.next (ρ.set i (some (.own (.lst (ds++[s.val])))))):=by
 unfold bj BL;rw[h0];dsimp only;rw[h];dsimp only[jj];rw[if_pos hl]
theorem ES{i:Nat}{ds es:List D}(h0:ρ[i]?=some (some (.own (.lst ds))))(h:a ρ=some (.ok s))(hi:pL s.val=some es)(hl:ds.length+es.length<=lim):nH i a ρ=some (.next (ρ.set i (some (.own (.lst (ds++es)))))):=by
 unfold nH BL;rw[h0];dsimp only;rw[h];dsimp only[jj];rw[hi];dsimp only;rw[if_pos hl]
theorem lL{it:MI}{bd:MB}{body:MC}{ds:List D}(h:it ρ=some (.ok ds))(h2:forD bd body ds ρ=o):mw it bd body ρ=o:=by unfold mw;rw[h];exact h2
theorem aH{np n:Nat}{g:MC}{ds:List D}(hl:ds.length=np)(h:g (cS n ds)=some (.ret s)):jl np n g ds=some (.ok s):=by unfold jl;rw[if_pos hl,h];rfl
theorem a6{f:D->D->Option R}(h1:a ρ=some (.ok s))(h2:b ρ=some (.ok t))(h3:f s.val t.val=r):a8 f a b ρ=r:=by unfold a8;rw[h1];dsimp only[bh];rw[h2];exact h3
theorem ud{f:D->Option R}(h1:a ρ=some (.ok s))(h3:f s.val=r):l5 f a ρ=r:=by unfold l5;rw[h1];exact h3
theorem iA(h:a ρ=okB true)(h2:b ρ=r):fO a b ρ=r:=by unfold fO;rw[h];exact h2
theorem ft(h:a ρ=okB false):fO a b ρ=okB false:=by unfold fO;rw[h];rfl
theorem KU(h:a ρ=okB true):AJ a b ρ=okB true:=by unfold AJ;rw[h];rfl
theorem rR(h:a ρ=okB false)(h2:b ρ=r):AJ a b ρ=r:=by unfold AJ;rw[h];exact h2
theorem JV{z:Bool}(h:a ρ=okB z):pj a ρ=okB (!z):=by unfold pj l5;rw[h];rfl
theorem Az(h:a ρ=okB true):pj a ρ=okB false:=JV h
theorem bL{F:List D->Option R}{e1:ME}{s1:S}(h1:e1 ρ=some (.ok s1))(h:F [s1.val]=r):ak F [e1] ρ=r:=by unfold ak cx;rw[h1];exact h
theorem bA{F:List D->Option R}{e1 e2:ME}{s1 s2:S}(h1:e1 ρ=some (.ok s1))(h2:e2 ρ=some (.ok s2))(h:F [s1.val,s2.val]=r):ak F [e1,e2] ρ=r:=by
 unfold ak cx;rw[h1];dsimp only[bh];unfold cx;rw[h2];exact h
theorem aU{F:List D->Option R}{e1 e2 e3:ME}{s1 s2 s3:S}(h1:e1 ρ=some (.ok s1))(h2:e2 ρ=some (.ok s2))(h3:e3 ρ=some (.ok s3))(h:F [s1.val,s2.val,s3.val]=r):ak F [e1,e2,e3] ρ=r:=by
 unfold ak cx;rw[h1];dsimp only[bh];unfold cx;rw[h2];dsimp only[bh];unfold cx;rw[h3];exact h
theorem l6{e1 e2:ME}{s1 s2:S}(h1:e1 ρ=some (.ok s1))(h2:e2 ρ=some (.ok s2)):aD [e1,e2] ρ=okD (.tup [s1.val,s2.val]):=bA h1 h2 rfl
theorem jO{e1:ME}{s1:S}{n:Int}(h1:e1 ρ=some (.ok s1))(h:cC s1.val=okI n):aY (f1 cC) [e1] ρ=okI n:=by
 have:cx [e1] ρ (f1 cC)=okI n:=bL (F:=f1 cC) h1 h;unfold aY;rw[this];rfl
theorem bq{i:Nat}{d:D}(h:ρ[i]?=some (some (.sh d))):a5 i ρ=okD d:=by unfold a5;rw[h]
theorem u7{i:Nat}(h:ρ[i]?=some (some s))(hn:s.nd=true:=by rfl):il i ρ=okD s.val:=by
 unfold il;rw[h];cases s with
 |sh d=>rfl
 |own o=>cases o with
  |lst _=>rfl
  |obj _ _ _=>rfl
  |dic _=>cases hn
  |par _ _=>cases hn
  |fdic _=>cases hn
  |tab _=>cases hn
  |dik _=>rfl
 |two _ _ _=>cases hn
theorem ig{ds:List D}(h:a ρ=some (.ok s))(hi:pL s.val=some ds):jf a ρ=some (.ok ds):=by unfold jf;rw[h];dsimp only;rw[hi];rfl
theorem j4{i:Int}(h:a ρ=okI i)(hr:gf i=true):dg a ρ=some (.ok (rng 0 i)):=by unfold dg vx;rw[h];dsimp only[S.val];rw[if_pos hr]
theorem JF{ds:List D}{k:Int}(h1:a ρ=okL ds)(h2:b ρ=okI k)(hk:-(2 ^ 60)<=k/\k<2 ^ 60/\ds.length * k.toNat<=lim):EV a b ρ=okL (replicate k.toNat ds).flatten:=by
 unfold EV;rw[h1];dsimp only;rw[h2];exact if_pos hk
theorem add_int(i j:Int):aK (.int i) (.int j)=okI (i+j):=rfl
theorem sub_int(i j:Int):kZ (.int i) (.int j)=okI (i - j):=rfl
theorem mul_int{i j:Int}(h:(jJ i || jJ j)=true):ip (.int i) (.int j)=okI (i * j):=by unfold ip;exact if_pos h
theorem iN{i j:Int}(h:0<j):km (.int i) (.int j)=okI (i % j):=by unfold km;exact if_pos h
theorem w9{i:Int}(h1:-(2 ^ 60)<=i)(h2:i<=2 ^ 60):jJ i=true:=by unfold jJ;simp;omega
theorem Cf{i j:Int}(h1:-(2 ^ 60)<=i)(h2:i<=2 ^ 60):ip (.int i) (.int j)=okI (i * j):=mul_int (by rw[w9 h1 h2];rfl)
theorem Ip{i j:Int}(h1:-(2 ^ 60)<=j)(h2:j<=2 ^ 60):ip (.int i) (.int j)=okI (i * j):=mul_int (by rw[w9 h1 h2,Bool.or_true])
theorem ix_tup{ds:List D}{d:D}{n:Nat}(h:ds[n]?=some d):dIx (.tup ds) (.int n)=okD d:=by
 have hn:n<ds.length:=(List.getElem?_eq_some_iff.mp h).1;show(A6 ds (n:Int)).bind okD=_;unfold A6 K6;rw[if_pos (by omega),if_pos (by omega)]
 simp[h]
theorem cB{ds:List D}{d:D}{n:Nat}(h:ds[n]?=some d):dIx (.lst ds) (.int n)=okD d:=ix_tup h
theorem yC(n:Nat):rng 0 n=(List.range n).map λk:Nat=>D.int k:=by
 unfold rng;rw[Int.sub_zero,toNat_natCast];exact map_congr_left λk _=>by rw[Int.zero_add]
theorem dy{n:Nat}(h:n<=1000000):gf (n:Int)=true:=by unfold gf;simp;omega
theorem xB{bd:MB}{body:MC}(Iv:Nat->MEnv->Prop):∀(ds:List D)(i:Nat)(ρ:MEnv),Iv i ρ->(∀(k:Nat)(ρ:MEnv)(d:D),ds[k]?=some d->Iv (i+k) ρ->∃ρ1 ρ2,bd d ρ=some ρ1/\body ρ1=some (.next ρ2)/\Iv (i+k+1) ρ2)->
  ∃ρ',forD bd body ds ρ=some (.next ρ')/\Iv (i+ds.length) ρ'
 |[],i,ρ,h,_=>⟨ρ,rfl,h⟩
 |d::ds,i,ρ,h,hs=>by
  obtain⟨ρ1,ρ2,e1,e2,h2⟩:=hs 0 ρ d rfl h;obtain⟨ρ',e3,h3⟩:=xB Iv ds (i+1) ρ2 h2 λk ρ d' e hk=>by
   obtain⟨r1,r2,f1,f2,f3⟩:=hs (k+1) ρ d' (by simpa using e) (by rw[show i+(k+1)=i+1+k by omega];exact hk)
   exact⟨r1,r2,f1,f2,by rw[show i+1+k+1=i+(k+1)+1 by omega];exact f3⟩
  refine⟨ρ',?_,by rw[length_cons,show i+(ds.length+1)=i+1+ds.length by omega];exact h3⟩
  unfold forD;rw[e1];dsimp only;rw[e2];exact e3
theorem mW{bd:MB}{body:MC}(Iv:Nat->MEnv->Prop)(n:Nat)(h0:Iv 0 ρ)(hs:∀(k:Nat)(ρ:MEnv),k<n->Iv k ρ->∃ρ1 ρ2,bd (.int k) ρ=some ρ1/\body ρ1=some (.next ρ2)/\Iv (k+1) ρ2):
  ∃ρ',forD bd body (rng 0 n) ρ=some (.next ρ')/\Iv n ρ':=by
 obtain⟨ρ',e,h⟩:=xB (bd:=bd) (body:=body) Iv (rng 0 n) 0 ρ h0 λk ρ d e hk=>by
  rw[yC,getElem?_map] at e;have hk':k<n:=by
   by_cases z:k<n
   ·exact z
   ·rw[getElem?_eq_none (by rw[length_range];omega)] at e;cases e
  rw[getElem?_range hk'] at e;cases e;rw[Nat.zero_add] at hk ⊢;exact hs k ρ hk' hk
 rw[Nat.zero_add,yC,length_map,length_range] at h;exact⟨ρ',e,h⟩
end
theorem BB{lo hi:Int}(h1:gf lo=true)(h2:gf hi=true)(h3:(hi - lo).toNat<=lim):lO (.int lo) (.int hi)=okL (rng lo hi):=by
 unfold lO;exact if_pos ⟨h1,h2,h3⟩
theorem xl(ns:List Int):intsOf (ns.map D.int)=some ns:=by
 induction ns with
 |nil=>rfl
 |cons n ns ih=>rw[map_cons];unfold intsOf;rw[ih];rfl
inductive lQ:Nat->D->Prop
 |non (n):lQ n .non
 |bl (n b):lQ n (.bl b)
 |int (n i):lQ n (.int i)
 |str (n x):lQ n (.str x)
 |tup (n ds):(∀d∈ds,lQ n d)->ds.length<=lim->lQ (n+1) (.tup ds)
 |lst (n ds):(∀d∈ds,lQ n d)->ds.length<=lim->lQ (n+1) (.lst ds)
theorem lQ.mono:∀{n m:Nat}{d:D},lQ n d->n<=m->lQ m d:=by
 intro n m d h
 induction h generalizing m with
 |non n=>exact λ_=>.non m
 |bl n b=>exact λ_=>.bl m b
 |int n i=>exact λ_=>.int m i
 |str n x=>exact λ_=>.str m x
 |tup n ds hd hl ih=>
  intro hm;obtain⟨k,rfl⟩:∃k,m=k+1:=⟨m - 1,by omega⟩
  exact .tup k ds (λd hd=>ih d hd (by omega)) hl
 |lst n ds hd hl ih=>
  intro hm;obtain⟨k,rfl⟩:∃k,m=k+1:=⟨m - 1,by omega⟩
  exact .lst k ds (λd hd=>ih d hd (by omega)) hl
theorem xJ(i:Str):fM (.str i) (.str i)=okB true:=by unfold fM IM;simp
section
variable{ρ ρ' ρ1:MEnv}{a b c:ME}
theorem ri{α:Type}{bd:MB}{cond elt:ME}{g:α->D}{f:α->D}{p:α->Bool}:∀(xs:List α)(acc:List D),(∀x∈xs,∃ρ1,bd (g x) ρ=some ρ1/\cond ρ1=okB (p x)/\(p x=true->∃s,elt ρ1=some (.ok s)/\s.val=f x))->acc.length+xs.length<=lim->ko bd cond elt ρ (xs.map g) acc=okL (acc++(xs.filter p).map f)
 |[],acc,_,hl=>by
  rw[map_nil];unfold ko;rw[if_pos (by simpa using hl)]
  simp
 |x::xs,acc,h,hl=>by
  obtain⟨ρ1,e1,e2,e3⟩:=h x mem_cons_self;rw[map_cons];unfold ko;rw[e1];dsimp only;rw[e2];show(if p x=true then(bh (elt ρ1) λy=>ko bd cond elt ρ (xs.map g) (acc++[y])) else ko bd cond elt ρ (xs.map g) acc)=_;rw[length_cons] at hl;by_cases hp:p x=true
  ·obtain⟨s,e4,e5⟩:=e3 hp;rw[if_pos hp,e4];show ko bd cond elt ρ (xs.map g) (acc++[s.val])=_;rw[e5,ri xs (acc++[f x]) (λy hy=>h y (mem_cons_of_mem _ hy)) (by rw[length_append,length_singleton];omega)]
   simp[hp]
  ·rw[if_neg hp,ri xs acc (λy hy=>h y (mem_cons_of_mem _ hy)) (by omega)]
   simp[hp]
theorem vC{α:Type}{js:List Nat}{it:MI}{bd:MB}{cond elt:ME}(xs:List α)(g:α->D)(p:α->Bool)(f:α->D)(hi:it ρ=some (.ok (xs.map g)))(hl:xs.length<=lim)
  (h:∀x∈xs,∃ρ1,bd (g x) (bI js ρ)=some ρ1/\cond ρ1=okB (p x)/\(p x=true->∃s,elt ρ1=some (.ok s)/\s.val=f x)):cR js it bd cond elt ρ=okL ((xs.filter p).map f):=by
 unfold cR;rw[hi];dsimp only;rw[if_pos (by rw[length_map];exact hl),ri xs [] h (by simpa using hl)]
 rfl
theorem ji{α:Type}{js:List Nat}{it:MI}{bd:MB}{elt:ME}(xs:List α)(g:α->D)(f:α->D)(hi:it ρ=some (.ok (xs.map g)))(hl:xs.length<=lim)
  (h:∀x∈xs,∃ρ1,bd (g x) (bI js ρ)=some ρ1/\∃s,elt ρ1=some (.ok s)/\s.val=f x):cR js it bd fo elt ρ=okL (xs.map f):=by
 rw[vC xs g (λ_=>true) f hi hl λx hx=>?_]
 ·rw[List.filter_eq_self.mpr (λ_ _=>rfl)]
 ·obtain⟨ρ1,e1,e2⟩:=h x hx;exact⟨ρ1,e1,rfl,λ_=>e2⟩
theorem JE(lo:Nat)(hi:Nat):rng lo hi=(List.range (hi - lo)).map λk:Nat=>D.int (lo+k:Nat):=by
 unfold rng;have:((hi:Int) - (lo:Int)).toNat=hi - lo:=by omega
 rw[this];exact map_congr_left λk _=>by congr 1
theorem pD{i j:Int}(h0:0<=j)(h1:j<=1000000)(h2:i.natAbs<2 ^ 64):oJ (.int i) (.int j)=okI (i * 2 ^ j.toNat):=by unfold oJ;exact if_pos ⟨h0,h1,h2⟩
theorem Al(i j:Nat):pq (.int i) (.int j)=okI ((i >>> j:Nat):Int):=by
 show(if(0:Int)<=(j:Int) then okI ((i:Int) / 2 ^ (j:Int).toNat) else none)=_;rw[if_pos (by omega),toNat_natCast,Nat.shiftRight_eq_div_pow,Int.natCast_ediv,Int.natCast_pow]
 rfl
theorem rn(i j:Nat):kn (.int i) (.int j)=okI ((i &&& j:Nat):Int):=by
 show(if 0<=(i:Int)/\0<=(j:Int) then okI (((i:Int).toNat &&& (j:Int).toNat:Nat):Int) else none)=_;rw[if_pos (by omega),toNat_natCast,toNat_natCast]
theorem vK(i j:Nat):vA (.int i) (.int j)=okI ((i ||| j:Nat):Int):=by
 show(if 0<=(i:Int)/\0<=(j:Int) then okI (((i:Int).toNat ||| (j:Int).toNat:Nat):Int) else none)=_;rw[if_pos (by omega),toNat_natCast,toNat_natCast]
theorem L9(w k:Nat):(w >>> k &&& 1)=(w.testBit k).toNat:=by
 unfold Nat.testBit;rw[Nat.and_comm];have h:1 &&& w >>> k=(w >>> k) % 2:=by rw[Nat.and_comm,Nat.and_one_is_mod]
 rw[h];have:(w >>> k) % 2=0\/(w >>> k) % 2=1:=by omega
 rcases this with e|e <;> rw[e] <;> rfl
theorem Kh{w k:Nat}{a b:ME}(h1:a ρ=okI w)(h2:b ρ=okI k):a8 kn (a8 pq a b) (eC (.int 1)) ρ=okI ((w.testBit k).toNat:Int):=by
 rw[←L9];exact a6 (a6 h1 h2 (Al w k)) rfl (rn _ 1)
theorem AY{w k:Nat}{a b:ME}(h1:a ρ=okI w)(h2:b ρ=okI k):a8 fM (a8 kn (a8 pq a b) (eC (.int 1))) (eC (.int 0)) ρ=okB (!w.testBit k):=by
 refine a6 (Kh h1 h2) rfl ?_;cases w.testBit k <;> rfl
theorem K3(i j:Int):Fk (.int i) (.int j)=okB (decide (i<j)):=rfl
theorem IG(i j:Int):sE (.int i) (.int j)=okB (decide (j<i)):=rfl
theorem IL(i j:Int):fM (.int i) (.int j)=okB (decide (i=j)):=rfl
theorem Io(i j:Int):xQ (.int i) (.int j)=okB (!decide (i=j)):=rfl
theorem G8{i j:Int}(h:i<j):Fk (.int i) (.int j)=okB true:=by rw[K3,decide_eq_true h]
theorem xh{i j:Int}(h:¬i<j):Fk (.int i) (.int j)=okB false:=by rw[K3,decide_eq_false h]
theorem xp{i j:Int}(h:j<i):sE (.int i) (.int j)=okB true:=by rw[IG,decide_eq_true h]
theorem xq{i j:Int}(h:¬j<i):sE (.int i) (.int j)=okB false:=by rw[IG,decide_eq_false h]
theorem zQ{i j:Int}(h:i=j):fM (.int i) (.int j)=okB true:=by rw[IL,decide_eq_true h]
theorem zR{i j:Int}(h:¬i=j):fM (.int i) (.int j)=okB false:=by rw[IL,decide_eq_false h]
theorem Im{i j:Int}(h:¬i=j):xQ (.int i) (.int j)=okB true:=by rw[Io,decide_eq_false h];rfl
theorem G5{i j:Int}(h:i=j):xQ (.int i) (.int j)=okB false:=by rw[Io,decide_eq_true h];rfl
theorem og{F:List D->Option R}{e1 e2 e3 e4:ME}{s1 s2 s3 s4:S}{r:Option R}(h1:e1 ρ=some (.ok s1))(h2:e2 ρ=some (.ok s2))(h3:e3 ρ=some (.ok s3))(h4:e4 ρ=some (.ok s4))(h:F [s1.val,s2.val,s3.val,s4.val]=r):ak F [e1,e2,e3,e4] ρ=r:=by
 unfold ak cx;rw[h1];dsimp only[bh];unfold cx;rw[h2];dsimp only[bh];unfold cx;rw[h3];dsimp only[bh];unfold cx;rw[h4];exact h
theorem xI{i j:Int}(h:0<j)(h2:j<1073741824):p8 (.int i) (.int j)=okI (i / j):=by unfold p8;exact if_pos ⟨h,h2⟩
theorem qS{d:D}{ds:List D}:dIx (.lst (d::ds)) (.int 0)=okD d:=cB (n:=0) rfl
theorem xi{d e:D}{ds:List D}:dIx (.lst (d::e::ds)) (.int 1)=okD e:=cB (n:=1) rfl
theorem AC{d e f:D}{ds:List D}:dIx (.lst (d::e::f::ds)) (.int 2)=okD f:=cB (n:=2) rfl
theorem bU{d:D}{ds:List D}:dIx (.tup (d::ds)) (.int 0)=okD d:=ix_tup (n:=0) rfl
theorem cg{d e:D}{ds:List D}:dIx (.tup (d::e::ds)) (.int 1)=okD e:=ix_tup (n:=1) rfl
theorem je{d e f:D}{ds:List D}:dIx (.tup (d::e::f::ds)) (.int 2)=okD f:=ix_tup (n:=2) rfl
theorem GY{d e f g:D}{ds:List D}:dIx (.tup (d::e::f::g::ds)) (.int 3)=okD g:=ix_tup (n:=3) rfl
theorem IP{α:Type}(xs:List α)(g:α->D)(z:α){a:ME}{ρ:MEnv}{s:S}(h:a ρ=some (.ok s))(hs:s.val=.lst (xs.map g)\/s.val=.tup (xs.map g)):xm a ρ=some (.ok ((List.range xs.length).map λi:Nat=>D.tup [.int i,g (xs.getD i z)])):=by
 have e:(List.range (xs.map g).length).zipWith (λ(i:Nat) d=>D.tup [.int i,d]) (xs.map g)=(List.range xs.length).map λi:Nat=>D.tup [.int i,g (xs.getD i z)]:=by
  refine ext_getElem? λi=>?_;rw[List.getElem?_zipWith,length_map];by_cases hi:i<xs.length
  ·rw[getElem?_range hi,getElem?_map,getElem?_eq_getElem hi,getElem?_map,getElem?_range hi];simp only[Option.map_some,getD_eq_getElem?_getD,getElem?_eq_getElem hi,Option.getD_some]
  ·rw[getElem?_eq_none (l:=List.range xs.length) (by rw[length_range];omega),getElem?_eq_none (l:=(List.range xs.length).map λi:Nat=>D.tup [.int i,g (xs.getD i z)]) (by rw[length_map,length_range];omega)]
 unfold xm vx;rw[h];dsimp only;rcases hs with hs|hs
 ·rw[hs];show some (RI.ok _)=_;rw[e]
 ·rw[hs];show some (RI.ok _)=_;rw[e]
theorem DA{a b:ME}{ρ:MEnv}{i j:Int}(h:a ρ=okI i)(h2:b ρ=okI j)(hr:gf i=true)(hr2:gf j=true):mj a b ρ=some (.ok (rng i j)):=by
 unfold mj vx;rw[h];dsimp only[S.val];rw[h2];dsimp only[S.val];rw[if_pos ⟨hr,hr2⟩]
theorem tN{α:Type}{bd:MB}{body:MC}(g:α->D)(Iv:List α->MEnv->Prop):∀(xs pre:List α)(ρ:MEnv),Iv pre ρ->(∀(q:List α)(x:α)(post:List α)(ρ:MEnv),pre++xs=q++x::post->Iv q ρ->∃ρ1 ρ2,bd (g x) ρ=some ρ1/\(body ρ1=some (.next ρ2)\/body ρ1=some (.cont ρ2))/\Iv (q++[x]) ρ2)->
  ∃ρ',forD bd body (xs.map g) ρ=some (.next ρ')/\Iv (pre++xs) ρ'
 |[],pre,ρ,h,_=>⟨ρ,rfl,by simpa using h⟩
 |x::xs,pre,ρ,h,hs=>by
  obtain⟨ρ1,ρ2,e1,e2,h2⟩:=hs pre x xs ρ rfl h;obtain⟨ρ',e3,h3⟩:=tN g Iv xs (pre++[x]) ρ2 h2 λq y post ρ hy hi=>hs q y post ρ (by rw[←hy];simp) hi
  refine⟨ρ',?_,by simpa using h3⟩
  rw[map_cons];unfold forD;rw[e1];dsimp only;rcases e2 with e2|e2 <;> rw[e2] <;> exact e3
theorem ki{α:Type}{bd:MB}{body:MC}(g:α->D)(Iv:List α->MEnv->Prop)(xs:List α){ρ:MEnv}(h0:Iv [] ρ)(hs:∀(q:List α)(x:α)(post:List α)(ρ:MEnv),xs=q++x::post->Iv q ρ->∃ρ1 ρ2,bd (g x) ρ=some ρ1/\(body ρ1=some (.next ρ2)\/body ρ1=some (.cont ρ2))/\Iv (q++[x]) ρ2):
  ∃ρ',forD bd body (xs.map g) ρ=some (.next ρ')/\Iv xs ρ':=by
 have:=tN (bd:=bd) (body:=body) g Iv xs [] ρ h0 (by simpa using hs)
 simpa using this
end
section
variable{ρ:MEnv}{a b e1 e2 e3 e4:ME}{s s1 s2 s3 s4:S}{o o1:O}{r:Option O}{q:Option R}{F:gn}{c:String}{f m:Str}{ns:List Str}{ds:List D}{cs:List String}
theorem oh(h:e1 ρ=some (.ok s1))(h2:F o [s1.val]=r):iw F [e1] ρ o=r:=by unfold iw cY;rw[h];exact h2
theorem Hf(h:e1 ρ=some (.ok s1))(h':e2 ρ=some (.ok s2))(h2:F o [s1.val,s2.val]=r):iw F [e1,e2] ρ o=r:=by
 unfold iw cY cY;rw[h];dsimp only;rw[h'];exact h2
theorem mv{g h:MG}(h1:g ρ o=some o1)(h2:h ρ o1=r):gj g h ρ o=r:=by unfold gj;rw[h1];exact h2
theorem kW{np n:Nat}{g:MG}(hl:ds.length+1=np)(h:g (none::cS (n - 1) ds) o=r):xE np n g o ds=r:=by unfold xE;rw[if_pos hl];exact h
theorem pZ(h:e1 ρ=some (.ok s))(hc:cs.contains c=true)(hl:ns.length=ds.length)(h9:ns.length<900):mF cs f e1 ρ (.obj c ns ds)=some (.obj c (putN f ns) (BC f s.val ns ds)):=by
 unfold mF;rw[h];dsimp only;rw[if_pos ⟨hc,hl,h9⟩]
theorem K1(h:F (.obj c [] []) []=some o):gu c F [] ρ=some (.ok (.own o)):=by unfold gu cx;dsimp only;rw[h]
theorem GW(h1:e1 ρ=some (.ok s1))(h:F (.obj c [] []) [s1.val]=some o):gu c F [e1] ρ=some (.ok (.own o)):=by
 unfold gu cx;rw[h1];dsimp only[bh];unfold cx;dsimp only;rw[h]
theorem x3(h1:e1 ρ=some (.ok s1))(h2:e2 ρ=some (.ok s2))(h:F (.obj c [] []) [s1.val,s2.val]=some o):gu c F [e1,e2] ρ=some (.ok (.own o)):=by
 unfold gu cx;rw[h1];dsimp only[bh];unfold cx;rw[h2];dsimp only[bh];unfold cx;dsimp only;rw[h]
theorem K0(h1:e1 ρ=some (.ok s1))(h2:e2 ρ=some (.ok s2))(h3:e3 ρ=some (.ok s3))(h:F (.obj c [] []) [s1.val,s2.val,s3.val]=some o):gu c F [e1,e2,e3] ρ=some (.ok (.own o)):=by
 unfold gu cx;rw[h1];dsimp only[bh];unfold cx;rw[h2];dsimp only[bh];unfold cx;rw[h3];dsimp only[bh];unfold cx;dsimp only;rw[h]
theorem vc{tb:String->Option (List D->Option R)}{as:List ME}{G:List D->Option R}(ho:a ρ=some (.ok s))(hv:s.val=.obj c ns ds)(hn:ns.contains m=false)(ht:tb c=some G):dC m tb a as ρ=cx as ρ λvs=>G (.obj c ns ds::vs):=by
 unfold dC;rw[ho];dsimp only[bh];rw[hv];dsimp only;rw[hn,if_neg Bool.false_ne_true,ht]
theorem GV{tb:String->Option (List D->Option R)}{G:List D->Option R}(ho:a ρ=some (.ok s))(hv:s.val=.obj c ns ds)(hn:ns.contains m=false)(ht:tb c=some G)(h:G [.obj c ns ds]=q):dC m tb a [] ρ=q:=by rw[vc ho hv hn ht];exact h
theorem GU{tb:String->Option (List D->Option R)}{G:List D->Option R}(ho:a ρ=some (.ok s))(hv:s.val=.obj c ns ds)(hn:ns.contains m=false)(ht:tb c=some G)(h1:e1 ρ=some (.ok s1))(h:G [.obj c ns ds,s1.val]=q):dC m tb a [e1] ρ=q:=by
 rw[vc ho hv hn ht];exact bL (F:=λvs=>G (.obj c ns ds::vs)) h1 h
theorem Ee{tb:String->Option (List D->Option R)}{G:List D->Option R}(ho:a ρ=some (.ok s))(hv:s.val=.obj c ns ds)(hn:ns.contains m=false)(ht:tb c=some G)(h1:e1 ρ=some (.ok s1))(h2:e2 ρ=some (.ok s2))(h3:e3 ρ=some (.ok s3))(h:G [.obj c ns ds,s1.val,s2.val,s3.val]=q):dC m tb a [e1,e2,e3] ρ=q:=by
 rw[vc ho hv hn ht];exact aU (F:=λvs=>G (.obj c ns ds::vs)) h1 h2 h3 h
theorem GT{tb:String->Option (List D->Option R)}{G:List D->Option R}(ho:a ρ=some (.ok s))(hv:s.val=.obj c ns ds)(hn:ns.contains m=false)(ht:tb c=some G)(h1:e1 ρ=some (.ok s1))(h2:e2 ρ=some (.ok s2))(h3:e3 ρ=some (.ok s3))(h4:e4 ρ=some (.ok s4))(h:G [.obj c ns ds,s1.val,s2.val,s3.val,s4.val]=q):dC m tb a [e1,e2,e3,e4] ρ=q:=by
 rw[vc ho hv hn ht];exact og (F:=λvs=>G (.obj c ns ds::vs)) h1 h2 h3 h4 h
theorem ix{d:D}(h:a ρ=some (.ok s))(hv:s.val=.obj c ns ds)(hc:cs.contains c=true)(hf:vy f ns ds=some d):l5 (o3 cs f) a ρ=okD d:=by
 refine ud h ?_;rw[hv];show(if cs.contains c=true then(vy f ns ds).bind okD else none)=_;rw[if_pos hc,hf];rfl
theorem EB(h:a ρ=okB true)(h2:e1 ρ=q):Gq a e1 e2 ρ=q:=by unfold Gq;rw[h];exact h2
theorem EC(h:a ρ=okB false)(h2:e2 ρ=q):Gq a e1 e2 ρ=q:=by unfold Gq;rw[h];exact h2
theorem Ds{x:Nat}(h:x<ds.length):lN (.tup ds) none (some x)=okD (.tup (ds.take x)):=by
 show(if(jm ds.length 0 none=0/\jm ds.length ds.length (some (x:Int))=ds.length) then none else okD (.tup (xT ds none (some (x:Int)))))=_;have e:jm ds.length ds.length (some (x:Int))=x:=by
  show(if(x:Int)<0 then((x:Int)+(ds.length:Int)).toNat else min (x:Int).toNat ds.length)=x;rw[if_neg (by omega)];omega
 rw[if_neg (by rw[e];omega)]
 show okD (.tup ((ds.drop 0).take (jm ds.length ds.length (some (x:Int)) - 0)))=_;rw[e];rfl
theorem yq{x:Nat}(h0:0<x)(h:x<=ds.length):lN (.tup ds) (some x) none=okD (.tup (ds.drop x)):=by
 have e:jm ds.length 0 (some (x:Int))=x:=by
  show(if(x:Int)<0 then((x:Int)+(ds.length:Int)).toNat else min (x:Int).toNat ds.length)=x;rw[if_neg (by omega)];omega
 show(if(jm ds.length 0 (some (x:Int))=0/\ds.length=ds.length) then none else okD (.tup (xT ds (some (x:Int)) none)))=_;rw[e,if_neg (by omega)]
 show okD (.tup ((ds.drop (jm ds.length 0 (some (x:Int)))).take (ds.length - jm ds.length 0 (some (x:Int)))))=_;rw[e,List.take_of_length_le (by rw[length_drop];omega)]
theorem Bm{x:Nat}(h:a ρ=some (.ok s))(hv:s.val=.tup ds)(hx:e1 ρ=okI x)(hl:x<ds.length):bx a none (some e1) ρ=okD (.tup (ds.take x)):=by
 unfold bx;rw[h];dsimp only[bh];rw[hv];show(bh (e1 ρ) λd=>match d with|.int i=>lN (.tup ds) none (some i)|_=>none)=_
 rw[hx];exact Ds hl
theorem oV{x:Nat}(h:a ρ=some (.ok s))(hv:s.val=.tup ds)(hx:e1 ρ=okI x)(h0:0<x)(hl:x<=ds.length):bx a (some e1) none ρ=okD (.tup (ds.drop x)):=by
 unfold bx;rw[h];dsimp only[bh];rw[hv];show(bh (e1 ρ) λd=>match d with|.int i=>lN (.tup ds) (some i) none|_=>none)=_
 rw[hx];exact yq h0 hl
theorem xX{xs ys:List D}(h:xs.length+ys.length<=100000):aK (.tup xs) (.tup ys)=okD (.tup (xs++ys)):=by
 show(if xs.length+ys.length<=lim then okD (.tup (xs++ys)) else none)=_;rw[if_pos (le_trans h (by decide))]
theorem tW{xs ys:List D}(h:xs.length+ys.length<=100000):aK (.lst xs) (.lst ys)=okL (xs++ys):=by
 show(if xs.length+ys.length<=lim then okL (xs++ys) else none)=_;rw[if_pos (le_trans h (by decide))]
theorem iT{x y:Str}(h:x=y):fM (.str x) (.str y)=okB true:=by subst h;exact xJ x
theorem aM{x y:Str}(h:x≠y):fM (.str x) (.str y)=okB false:=by unfold fM IM;simp[h]
end
end L3
namespace Bell
open PySem L3
noncomputable section
def zC:MC:=
 (aw (aL 2 (fN [])) (aw (mw (jf (a8 dIx (a5 0) (eC (.int 1)))) (aW 3) (aw (aL 4 (cR [5] (jf (a8 dIx (a5 3) (eC (.int 2)))) (aW 5) fo (aD [(a8 dIx (a5 5) (eC (.int 0))),(eC (.int 0))]))) (aw (iq (a8 fM (a8 dIx (a5 3) (eC (.int 1))) (eC (.int 0))) (aL 4 (cR [5] (jf (a8 dIx (a5 3) (eC (.int 2)))) (aW 5) fo (aD [(a8 dIx (a5 5) (eC (.int 0))),(a8 vA (a8 dIx (a5 5) (eC (.int 1))) (a5 1))]))) bg) (eV 4 (bj 2 (aD [(a8 dIx (a5 3) (eC (.int 0))),(a8 dIx (a5 3) (eC (.int 1))),(ak (f1 eR) [(a5 4)])])))))) (eV 2 (aV (aD [(a8 dIx (a5 0) (eC (.int 0))),(ak (f1 eR) [(a5 2)])])))))
def kP:List D->Option R:=jl 2 6 zC
def zA:MC:=
 (aw (aL 3 (eC (.int 0))) (aw (iq (a8 sE (aY (f1 cC) [(il 0)]) (eC (.int 0))) (aL 3 (a8 km (a8 dIx (a5 0) (a8 km (a5 1) (aY (f1 cC) [(il 0)]))) (eC (.int 1000003)))) bg) (aV (a8 km (a8 p8 (a8 km (a8 ip (a8 km (a8 ip (a8 aK (a5 3) (eC (.int 1))) (a8 aK (a8 aK (a8 ip (a5 1) (a5 1)) (a5 1)) (eC (.int 41)))) (eC (.int 999983))) (eC (.int 48271))) (eC (.int 2147483647))) (eC (.int 11))) (a5 2)))))
def ax:List D->Option R:=jl 3 4 zA
def vf:MC:=
 (aw (aL 2 (ak ax [(a5 0),(a5 1),(eC (.int 2000))])) (aw (aL 3 (fN [(a8 kZ (a8 km (a5 2) (eC (.int 7))) (eC (.int 3))),(a8 kZ (a8 CS (eC (.int 10)) (eC (.int 9))) (a8 km (a5 2) (eC (.int 5)))),(a8 kZ (a8 km (a5 2) (eC (.int 5))) (a8 CS (eC (.int 10)) (eC (.int 9)))),(a8 ip (a5 2) (eC (.int 499999)))])) (eV 3 (aV (a8 dIx (a5 3) (ak ax [(a5 0),(a8 aK (a5 1) (eC (.int 4000))),(eC (.int 4))]))))))
def bX:List D->Option R:=jl 2 4 vf
def xa:MC:=
 (aw (aL 1 (fN [])) (aw (mw (dg (a8 dIx (fN [(eC (.int 1)),(eC (.int 2)),(eC (.int 3)),(eC (.int 3)),(eC (.int 4)),(eC (.int 4)),(eC (.int 5)),(eC (.int 8))]) (ak ax [(a5 0),(eC (.int 3)),(eC (.int 8))]))) (aW 2) (aw (aL 3 (fN [(ak bX [(a5 0),(a8 aK (eC (.int 10)) (a8 ip (eC (.int 4)) (a5 2)))]),(ak bX [(a5 0),(a8 aK (eC (.int 11)) (a8 ip (eC (.int 4)) (a5 2)))])])) (aw (aL 4 (a8 aK (eC (.int 1)) (ak ax [(a5 0),(a8 aK (eC (.int 12)) (a8 ip (eC (.int 4)) (a5 2))),(eC (.int 2))]))) (eV 3 (bj 1 (aD [(a8 tU (a8 dIx (eC (.str "abcdefgh")) (a5 2)) (a5 4)),(ak (f1 eR) [(bx (a5 3) none (some (a5 4)))])])))))) (eV 1 (aV (ak (f1 eR) [(a5 1)])))))
def jF:List D->Option R:=jl 1 5 xa
def zB:MC:=
 (aw (aL 3 (fN [(eC (.str "put")),(eC (.str "copy")),(eC (.str "grow")),(eC (.str "tick")),(eC (.str "still")),(eC (.str "is")),(eC (.str "most")),(eC (.str "none")),(eC (.str "anew")),(eC (.str "grow")),(eC (.str "put")),(eC (.str "anew"))])) (eV 3 (aw (aL 4 (a8 dIx (a5 3) (ak ax [(a5 1),(a5 2),(eC (.int 12))]))) (aw (aL 5 (ak ax [(a5 1),(a8 aK (a5 2) (eC (.int 1))),(aY (f1 cC) [(il 0)])])) (aw (aL 6 (aY (f1 cC) [(a8 dIx (a8 dIx (a5 0) (a5 5)) (eC (.int 1)))])) (aw (aL 7 (cR [11] (dg (aY (f1 cC) [(il 0)])) (aW 11) (a8 fM (aY (f1 cC) [(a8 dIx (a8 dIx (a5 0) (a5 11)) (eC (.int 1)))]) (a5 6)) (a5 11))) (eV 7 (aw (aL 8 (a8 dIx (a5 7) (ak ax [(a5 1),(a8 aK (a5 2) (eC (.int 2))),(aY (f1 cC) [(il 7)])]))) (aw (aL 9 (cR [11] (dg (aY (f1 cC) [(il 0)])) (aW 11) (fO (a8 fM (aY (f1 cC) [(a8 dIx (a8 dIx (a5 0) (a5 11)) (eC (.int 1)))]) (eC (.int 1))) (fO (a8 xQ (a5 11) (a5 5)) (a8 xQ (a5 11) (a5 8)))) (a5 11))) (aw (aL 10 (ak bX [(a5 1),(a8 aK (a5 2) (eC (.int 3)))])) (aw (iq (a8 fM (a5 4) (eC (.str "put"))) (aV (aD [(eC (.str "put")),(a5 5),(ak (f1 eR) [(bx (fN [(a5 10),(l5 IT (a5 10))]) none (some (a5 6)))])])) bg) (aw (iq (fO (a8 fM (a5 4) (eC (.str "copy"))) (a8 xQ (a5 5) (a5 8))) (aV (aD [(eC (.str "copy")),(a5 5),(a5 8)])) bg) (aw (iq (a8 fM (a5 4) (eC (.str "grow"))) (aV (aD [(eC (.str "grow")),(a5 5),(a5 10)])) bg) (aw (iq (fO (a8 fM (a5 4) (eC (.str "tick"))) (a8 fM (a5 6) (eC (.int 1)))) (aV (aD [(eC (.str "tick")),(a5 5)])) bg) (aw (iq (AJ (a8 fM (a5 4) (eC (.str "is"))) (a8 fM (a5 4) (eC (.str "most")))) (aV (aD [(a5 4),(a5 5),(a5 8),(a5 10)])) bg) (aw (iq (a8 fM (a5 4) (eC (.str "none"))) (aV (aD [(eC (.str "none")),(a5 5)])) bg) (aw (iq (fO (a8 fM (a5 4) (eC (.str "anew"))) (fO (a8 xQ (a5 5) (a5 8)) (a8 sE (aY (f1 cC) [(il 9)]) (eC (.int 0))))) (eV 9 (aV (aD [(eC (.str "anew")),(a5 5),(a5 8),(a8 dIx (a5 9) (ak ax [(a5 1),(a8 aK (a5 2) (eC (.int 4))),(aY (f1 cC) [(il 9)])]))]))) bg) (aV (aD [(eC (.str "still")),(a8 aK (eC (.int 1)) (ak ax [(a5 1),(a8 aK (a5 2) (eC (.int 5))),(eC (.int 9))]))])))))))))))))))))))
def gK:List D->Option R:=jl 3 12 zB
def zz:MC:=
 (aw (aL 2 (ak ax [(a5 0),(a8 aK (eC (.int 60)) (a5 1)),(eC (.int 9))])) (aV (a8 dIx (fN [(a8 aK (eC (.int 1)) (a5 2)),(a8 aK (a5 1) (a8 p8 (a5 2) (eC (.int 3)))),(a8 kZ (eC (.int 9)) (a5 1)),(a8 aK (eC (.int 1)) (a8 p8 (a5 2) (eC (.int 3))))]) (ak ax [(a5 0),(eC (.int 4)),(eC (.int 4))]))))
def jg:List D->Option R:=jl 2 3 zz
def zy:MC:=
 (aw (aL 3 (ak ax [(a5 0),(a5 1),(a8 oJ (eC (.int 1)) (a5 2))])) (aw (aL 4 (ak ax [(a5 0),(a8 aK (a5 1) (eC (.int 1))),(a8 oJ (eC (.int 1)) (a5 2))])) (aV (a8 oJ (a8 dIx (fN [(eC (.int 0)),(a8 kn (a5 3) (a5 4)),(a5 3)]) (ak ax [(a5 0),(eC (.int 5)),(eC (.int 3))])) (eC (.int 1))))))
def gJ:List D->Option R:=jl 3 5 zy
def sv:MC:=
 (aw (aL 2 (ak jF [(a5 0)])) (aw (aL 3 (ak ax [(a5 0),(eC (.int 6)),(eC (.int 7))])) (aw (aL 4 (fN [])) (aw (mw (dg (a8 aK (a5 3) (eC (.int 1)))) (aW 5) (aw (aL 6 (fN [])) (aw (mw (dg (a8 aK (eC (.int 1)) (ak ax [(a5 0),(a8 aK (eC (.int 70)) (a5 5)),(a5 1)]))) (aW 7) (aw (aL 8 (a8 aK (a8 aK (eC (.int 100)) (a8 ip (eC (.int 200)) (a5 5))) (a8 ip (eC (.int 12)) (a5 7)))) (bj 6 (aD [(ak gK [(a5 2),(a5 0),(a5 8)]),(ak gJ [(a5 0),(a8 aK (a5 8) (eC (.int 7))),(a5 3)])])))) (iq (a8 fM (a5 5) (eC (.int 0))) (eV 6 (bj 4 (aD [(eC (.str "main")),(eC (.int 0)),(ak (f1 eR) [(a5 6)])]))) (eV 6 (bj 4 (aD [(a8 tU (a8 dIx (eC (.str "klmnop")) (a8 kZ (a5 5) (eC (.int 1)))) (a8 aK (eC (.int 1)) (a8 km (a5 5) (eC (.int 2))))),(ak jg [(a5 0),(a5 5)]),(ak (f1 eR) [(a5 6)])]))))))) (eV 4 (aV (aD [(a5 2),(ak (f1 eR) [(a5 4)])])))))))
def gZ:List D->Option R:=jl 2 9 sv
def x9:MC:=
 (aV (fO (l5 (A0 "int") (a5 0)) (pj (l5 (A0 "bool") (a5 0)))))
def eQ:List D->Option R:=jl 1 1 x9
def x8:MC:=
 (aw (iq (pj (l5 (A0 "list") (a5 0))) (aV (eC (.bl false))) bg) (aw (mw (jf (a5 0)) (aW 2) (iq (AJ (pj (ak eQ [(a5 2)])) (AJ (a8 Fk (a5 2) (eC (.int 0))) (AJ (a8 fM (a8 kn (a5 2) (eC (.int 1))) (eC (.int 1))) (a8 xQ (a8 pq (a5 2) (a8 aK (a5 1) (eC (.int 1)))) (eC (.int 0)))))) (aV (eC (.bl false))) bg)) (aV (eC (.bl true)))))
def jE:List D->Option R:=jl 2 3 x8
def nV:MC:=
 (aw (aL 2 (aY (f1 cC) [(a8 dIx (a8 dIx (a8 dIx (a5 0) (eC (.int 1))) (a5 1)) (eC (.int 2)))])) (aV (l5 ra (Gq (a8 fM (a5 1) (eC (.int 0))) (a8 aK (a5 2) (eC (.int 1))) (a5 2)))))
def ek:List D->Option R:=jl 2 3 nV
def x5:MC:=
 (aV (a8 dIx (a8 dIx (a8 dIx (a5 0) (eC (.int 1))) (a5 1)) (eC (.int 2))))
def cQ:List D->Option R:=jl 2 2 x5
def Ck:MC:=
 (aw (aL 3 (ak cQ [(a5 0),(a5 1)])) (aV (Gq (a8 Fk (a5 2) (aY (f1 cC) [(il 3)])) (a8 dIx (a8 dIx (a5 3) (a5 2)) (eC (.int 1))) (eC (.int 0)))))
def fL:List D->Option R:=jl 3 4 Ck
def zx:MC:=
 (aw (aL 3 (a8 dIx (a5 0) (eC (.int 1)))) (aw (aL 4 (fN [])) (aw (mw (jf (ak ek [(a5 0),(a5 1)])) (aW 5) (aw (aL 6 (a8 vA (a5 2) (ak fL [(a5 0),(a5 1),(a5 5)]))) (mw (mj (eC (.int 1)) (aY (f1 cC) [(il 3)])) (aW 7) (iq (fO (a8 sE (a8 dIx (a8 dIx (a5 3) (a5 7)) (eC (.int 1))) (a8 dIx (a8 dIx (a5 3) (a5 1)) (eC (.int 1)))) (a8 fM (a8 kn (a8 pq (a5 6) (a5 7)) (eC (.int 1))) (eC (.int 0)))) (bj 4 (aD [(a5 5),(a5 7),(a5 6)])) bg)))) (eV 4 (aV (a5 4))))))
def cX:List D->Option R:=jl 3 8 zx
def gF:MC:=
 (aw (aL 2 (fN [])) (aw (aL 3 (eC (.int 0))) (aw (aL 4 (eC (.int 0))) (aw (qg (λ_=>5000) (a8 sE (D9 1 (aD [(a5 3),(a5 4)])) (eC (.int 0))) (aw (aL 5 (xO 1 (ak cX [(a5 0),(a5 3),(a5 4)]) (D9 1 (aD [(a8 dIx (a5 0) (eC (.int 1))),(a8 dIx (a5 0) (eC (.int 2)))])))) (aw (bj 2 (aD [(a5 3),(a8 dIx (a5 5) (eC (.int 0))),(eC (.int 0))])) (aw (aL 3 (a8 dIx (a5 5) (eC (.int 1)))) (aL 4 (a8 dIx (a5 5) (eC (.int 2)))))))) (eV 2 (wc 1 (a8 aK (a5 2) (fN [(aD [(a5 3),(eC (.int 0)),(eC (.int 0))])]))))))))
def bT:MF:=CL 1 2 6 gF
def gE(G:MF):MC:=
 (aw (iq (zV true 3 (aD [(a5 1),(a5 2)])) (aw (mC 4 (p3 [5] (jf (ak cX [(a5 0),(a5 1),(a5 2)])) (aW 5) (vo aK (ir 3 G [(a5 0),(a8 dIx (a5 5) (eC (.int 1))),(a8 dIx (a5 5) (eC (.int 2)))] []) (eC (.int 1))))) (eV 4 (sV 3 (aD [(a5 1),(a5 2)]) (l5 (rf 0) (a5 4))))) bg) (wc 3 (D9 3 (aD [(a5 1),(a5 2)]))))
def gH:MF:=Nat.rec (motive:=λ_=>MF) (λ_ _ _=>none) (λ_ G=>CL 3 4 6 (gE G)) 12
def Co:MC:=
 (aV (a8 aK (a5 0) (aD [(aD [(a5 1),(eC (.int 0)),(eC (.int 0)),(aD [])])])))
def kj:List D->Option R:=jl 2 2 Co
def Cn:MC:=
 (aw (aL 2 (eC (.int 0))) (aw (mw (jf (a5 1)) (aW 3) (aL 2 (a8 vA (a5 2) (ak fL [(a5 0),(a8 dIx (a5 3) (eC (.int 0))),(a8 dIx (a5 3) (eC (.int 1)))])))) (aV (a5 2))))
def mm:List D->Option R:=jl 2 4 Cn
def x6:MC:=
 (aw (aL 3 (a8 dIx (a5 0) (eC (.int 1)))) (aV (fO (a8 sE (a8 dIx (a8 dIx (a5 3) (a5 2)) (eC (.int 1))) (a8 dIx (a8 dIx (a5 3) (a8 dIx (a8 dIx (a5 1) (eC (.int (-1)))) (eC (.int 0)))) (eC (.int 1)))) (a8 fM (a8 kn (a8 pq (ak mm [(a5 0),(a5 1)]) (a5 2)) (eC (.int 1))) (eC (.int 0))))))
def ib:List D->Option R:=jl 3 4 x6
def x4:MC:=
 (aw (aL 1 (fN [])) (aw (mw (jf (a5 0)) (aW 2) (nH 1 (a8 dIx (a5 2) (eC (.int 1))))) (eV 1 (aV (ak (f1 eR) [(a5 1)])))))
def jD:List D->Option R:=jl 1 3 x4
def Cr:MC:=
 (aV (a8 dIx (a8 dIx (ak cQ [(a5 0),(a5 1)]) (a5 2)) (eC (.int 0))))
def mr:List D->Option R:=jl 3 3 Cr
def Cm:MC:=
 (aV (aY (f1 cC) [(a8 dIx (a8 dIx (a5 0) (a5 1)) (eC (.int 1)))]))
def iY:List D->Option R:=jl 2 2 Cm
def zD:MC:=
 (aw (aL 2 (ak (f1 Gw) [(cR [3] (dg (a5 1)) (aW 3) fo (ak iY [(a5 0),(a5 3)]))])) (aV (a8 lO (a5 2) (a8 aK (a5 2) (ak iY [(a5 0),(a5 1)])))))
def gL:List D->Option R:=jl 2 4 zD
def EL:MG:=
 (gj (mF ["Deed","Promise","Comparing","Untouched","Still","Put","Copy","Tick","Handed","Grow","Anew"] "plan" (a5 1)) kU)
def gg:gn:=xE 2 2 EL
def zP:MG:=
 (gj (iw gg [(a8 aK (cR [3] (jf (a5 1)) (aW 3) fo (aD [(aD [(a5 3)]),(aD [])])) (cR [3] (jf (a5 2)) (aW 3) fo (aD [(aD []),(aD [(a5 3)])])))]) kU)
def ke:gn:=xE 3 4 zP
def EN:MG:=
 (gj (iw ke [(a8 aK (a8 aK (fN [(a5 3)]) (a5 2)) (fN [(a5 3)])),(a5 1)]) (gj (mF ["Anew"] "check" (a8 aK (aY (f1 cC) [(il 2)]) (eC (.int 1)))) kU))
def zL:gn:=xE 4 4 EN
def xu:MG:=
 (gj (iw gg [(fN [(aD [(ak (f1 eR) [(a5 1)]),(aD [])])])]) kU)
def iX:gn:=xE 2 2 xu
def sC:MG:=
 (gj (iw iX [(l5 r9 (a8 aK (a5 1) (a5 2)))]) kU)
def lH:gn:=xE 3 3 sC
def EM:MG:=
 (gj (iw gg [(cR [3] (dg (aY (f1 cC) [(il 1)])) (aW 3) fo (aD [(aD [(a8 dIx (a5 2) (a5 3))]),(aD [(a8 dIx (a5 1) (a5 3))])]))]) kU)
def zK:gn:=xE 3 4 EM
def EK:MG:=
 (gj (iw ke [(a5 1),(a5 1)]) (gj (mF ["Grow"] "size" (aY (f1 cC) [(il 1)])) (gj (mF ["Grow"] "number" (a5 2)) kU)))
def zJ:gn:=xE 3 3 EK
def Gm:MG:=
 (gj (iw gg [(cR [3] (jf (a5 1)) (aW 3) fo (aD [(aD []),(aD [(a5 3)])]))]) (gj (mF ["Put"] "numbers" (ak (f1 eR) [(a5 2)])) kU))
def ED:gn:=xE 3 4 Gm
def CJ:MG:=
 (gj (iw gg [(EV (fN [(aD [(aD []),(aD [])])]) (a5 1))]) kU)
def vw:gn:=xE 2 2 CJ
def EJ:MG:=
 (gj (iw gg [(fN [(aD [(aD [(a5 1)]),(aD [(a5 1)])])])]) kU)
def zI:gn:=xE 2 2 EJ
def sA:MG:=
 (gj (iw iX [(fN [])]) kU)
def lF:gn:=xE 1 1 sA
def Cq:MC:=
 (aw (aL 2 (a8 dIx (a5 1) (eC (.int 0)))) (aw (iq (a8 fM (a5 2) (eC (.str "still"))) (aV (gu "Still" vw [(a8 dIx (a5 1) (eC (.int 1)))])) bg) (aw (iq (a8 fM (a5 2) (eC (.str "none"))) (aV (gu "Untouched" lF [])) bg) (aw (aL 3 (ak gL [(a5 0),(a8 dIx (a5 1) (eC (.int 1)))])) (aw (iq (a8 fM (a5 2) (eC (.str "put"))) (eV 3 (aV (gu "Put" ED [(a5 3),(a8 dIx (a5 1) (eC (.int 2)))]))) bg) (aw (iq (a8 fM (a5 2) (eC (.str "grow"))) (eV 3 (aV (gu "Grow" zJ [(a5 3),(a8 dIx (a5 1) (eC (.int 2)))]))) bg) (aw (iq (a8 fM (a5 2) (eC (.str "tick"))) (eV 3 (aV (gu "Tick" zI [(a8 dIx (a5 3) (eC (.int 0)))]))) bg) (aw (aL 4 (ak gL [(a5 0),(a8 dIx (a5 1) (eC (.int 2)))])) (aw (iq (a8 fM (a5 2) (eC (.str "copy"))) (eV 4 (eV 3 (aV (gu "Copy" zK [(a5 3),(a5 4)])))) bg) (aw (iq (a8 fM (a5 2) (eC (.str "anew"))) (eV 4 (eV 3 (aV (gu "Anew" zL [(a5 3),(a5 4),(a8 dIx (ak gL [(a5 0),(a8 dIx (a5 1) (eC (.int 3)))]) (eC (.int 0)))])))) bg) (eV 4 (eV 3 (aV (gu "Comparing" lH [(a5 3),(a5 4)]))))))))))))))
def mq:List D->Option R:=jl 2 5 Cq
def xc:MC:=
 (aV (a8 fM (a8 dIx (a5 1) (eC (.int 1))) (aY (f1 cC) [(ak cQ [(a5 0),(a8 dIx (a5 1) (eC (.int 0)))])])))
def dB:List D->Option R:=jl 2 2 xc
def vj:MC:=
 (aV (ak (f1 F0) [(a8 dIx (a8 dIx (l5 (o3 ["Deed","Promise","Comparing","Untouched","Still","Put","Copy","Tick","Handed","Grow","Anew"] "plan") (a5 0)) (a5 1)) (eC (.int 0)))]))
def dG:List D->Option R:=jl 2 2 vj
def fQ:String->Option (List D->Option R):=(vQ ["Deed","Promise","Comparing","Untouched","Still","Put","Copy","Tick","Handed","Grow","Anew"] dG pU)
def sx:MC:=
 (aV (aD [(a5 2),(a8 aK (a5 3) (aD [(a8 dIx (a5 2) (a8 dIx (dC "reads" fQ (a5 0) [(a5 1)]) (eC (.int 0))))])),(a8 aK (a5 1) (eC (.int 1)))]))
def dW:List D->Option R:=jl 4 4 sx
def Cj:MC:=
 (aV (a8 aK (a8 aK (bx (a5 0) none (some (a5 1))) (aD [(a5 2)])) (bx (a5 0) (some (a8 aK (a5 1) (eC (.int 1)))) none)))
def dU:List D->Option R:=jl 3 3 Cj
def vi:MC:=
 (aV (aY (f1 cC) [(l5 (o3 ["Deed","Promise","Comparing","Untouched","Still","Put","Copy","Tick","Handed","Grow","Anew"] "plan") (a5 0))]))
def fb:List D->Option R:=jl 1 1 vi
def sy:MC:=
 (aV (ak (f1 F0) [(a8 dIx (a8 dIx (l5 (o3 ["Deed","Promise","Comparing","Untouched","Still","Put","Copy","Tick","Handed","Grow","Anew"] "plan") (a5 0)) (a5 1)) (eC (.int 1)))]))
def cE:List D->Option R:=jl 2 2 sy
def hJ:String->Option (List D->Option R):=(vQ ["Deed","Promise","Comparing","Untouched","Still","Put","Copy","Tick","Handed","Grow","Anew"] fb pU)
def dn:String->Option (List D->Option R):=(vQ ["Deed","Promise","Comparing","Untouched","Still","Put","Copy","Tick","Handed","Grow","Anew"] cE pU)
def nW:MC:=
 (aw (aL 5 (a8 aK (a5 1) (eC (.int 1)))) (aw (aL 6 (Gq (a8 fM (a5 5) (dC "turns" hJ (a5 0) [])) (aD []) (a5 3))) (aV (aD [(ak dU [(a5 2),(a8 dIx (dC "writes" dn (a5 0) [(a5 1)]) (eC (.int 0))),(a5 4)]),(a5 6),(a5 5)]))))
def cj:List D->Option R:=jl 5 7 nW
def lX:String->Option (List D->Option R):=(vQ ["Handed","Grow","Anew"] dW pU)
def fE:String->Option (List D->Option R):=(vQ ["Handed","Grow","Anew"] cj pU)
def vn:MC:=
 (aw (iq (a8 Fk (a5 1) (l5 (o3 ["Anew"] "check") (a5 0))) (aV (dC "laid" lX (a5 0) [(a5 1),(a5 2),(a5 3)])) bg) (aw (iq (a8 sE (a5 1) (l5 (o3 ["Anew"] "check") (a5 0))) (aV (dC "set_down" fE (a5 0) [(a5 1),(a5 2),(a5 3),(a8 dIx (a5 3) (a8 kZ (a5 1) (l5 (o3 ["Anew"] "check") (a5 0))))])) bg) (aw (iq (a8 fM (a8 dIx (a5 2) (a8 dIx (dC "reads" fQ (a5 0) [(a5 1)]) (eC (.int 0)))) (a8 dIx (a5 3) (eC (.int 0)))) (aV (aD [(a5 2),(a5 3),(a8 aK (a5 1) (eC (.int 1)))])) bg) (aV (aD [(a5 2),(aD []),(eC (.int 0))])))))
def iS:List D->Option R:=jl 4 4 vn
def vm:MC:=
 (aw (aL 4 (a8 dIx (a5 2) (a8 dIx (dC "reads" fQ (a5 0) [(a5 1)]) (eC (.int 0))))) (aV (aD [(ak dU [(a5 2),(a8 dIx (dC "writes" dn (a5 0) [(a5 1)]) (eC (.int 0))),(a5 4)]),(a5 3),(a8 aK (a5 1) (eC (.int 1)))])))
def iR:List D->Option R:=jl 4 5 vm
def vk:MC:=
 (aV (aD [(a5 2),(a5 3),(a8 aK (a5 1) (eC (.int 1)))]))
def dH:List D->Option R:=jl 4 4 vk
def vh:MC:=
 (aw (iq (a8 Fk (a5 1) (l5 (o3 ["Grow"] "size") (a5 0))) (aV (dC "laid" lX (a5 0) [(a5 1),(a5 2),(a5 3)])) bg) (aV (dC "set_down" fE (a5 0) [(a5 1),(a5 2),(a5 3),(a8 aK (a8 dIx (a5 3) (a8 kZ (a5 1) (l5 (o3 ["Grow"] "size") (a5 0)))) (l5 (o3 ["Grow"] "number") (a5 0)))])))
def iQ:List D->Option R:=jl 4 4 vh
def xg:MC:=
 (aV (aD [(ak dU [(a5 2),(a8 dIx (dC "writes" dn (a5 0) [(a5 1)]) (eC (.int 0))),(a8 dIx (l5 (o3 ["Put"] "numbers") (a5 0)) (a5 1))]),(a5 3),(a8 aK (a5 1) (eC (.int 1)))]))
def jG:List D->Option R:=jl 4 4 xg
def vg:MC:=
 (aw (aL 4 (a8 dIx (dC "writes" dn (a5 0) [(a5 1)]) (eC (.int 0)))) (aV (aD [(ak dU [(a5 2),(a5 4),(a8 aK (a8 dIx (a5 2) (a5 4)) (eC (.int 1)))]),(a5 3),(a8 aK (a5 1) (eC (.int 1)))])))
def iP:List D->Option R:=jl 4 5 vg
def eD:String->Option (List D->Option R):=(vQ ["Deed","Promise","Comparing","Untouched","Still","Handed"] dH (vQ ["Put"] jG (vQ ["Copy"] iR (vQ ["Tick"] iP (vQ ["Grow"] iQ (vQ ["Anew"] iS pU))))))
theorem j2:eD "Comparing" = some dH:=rfl
theorem mJ:eD "Untouched" = some dH:=rfl
theorem pT:eD "Still" = some dH:=rfl
theorem ue:eD "Put" = some jG:=rfl
theorem rG:eD "Copy" = some iR:=rfl
theorem rF:eD "Tick" = some iP:=rfl
theorem my:eD "Grow" = some iQ:=rfl
theorem rH:eD "Anew" = some iS:=rfl
def Eg:MC:=
 (aw (aL 3 (a8 dIx (a5 1) (eC (.int (-1))))) (aw (iq (ak dB [(a5 0),(a5 3)]) (aV (eC .non)) bg) (aw (aL 4 (ak mq [(a8 dIx (a5 0) (eC (.int 0))),(ak mr [(a5 0),(a8 dIx (a5 3) (eC (.int 0))),(a8 dIx (a5 3) (eC (.int 1)))])])) (eV 4 (aw (aL 5 (dC "after" eD (a5 4) [(a8 dIx (a5 3) (eC (.int 2))),(a5 2),(a8 dIx (a5 3) (eC (.int 3)))])) (eV 4 (aw (iq (a8 Fk (a8 dIx (a5 5) (eC (.int 2))) (dC "turns" hJ (a5 4) [])) (aL 6 (aD [(a8 dIx (a5 3) (eC (.int 0))),(a8 dIx (a5 3) (eC (.int 1))),(a8 dIx (a5 5) (eC (.int 2))),(a8 dIx (a5 5) (eC (.int 1)))])) (aL 6 (aD [(a8 dIx (a5 3) (eC (.int 0))),(a8 aK (a8 dIx (a5 3) (eC (.int 1))) (eC (.int 1))),(eC (.int 0)),(aD [])]))) (aw (iq (fO (a8 sE (a8 dIx (a5 6) (eC (.int 0))) (eC (.int 0))) (ak dB [(a5 0),(a5 6)])) (aV (aD [(bx (a5 1) none (some (eC (.int (-1))))),(a8 dIx (a5 5) (eC (.int 0)))])) bg) (aV (aD [(a8 aK (bx (a5 1) none (some (eC (.int (-1))))) (aD [(a5 6)])),(a8 dIx (a5 5) (eC (.int 0)))]))))))))))
def ia:List D->Option R:=jl 3 7 Eg
def su:MC:=
 (aw (aL 2 (aD [(aD [(eC (.int 0)),(eC (.int 0)),(eC (.int 0)),(aD [])])])) (aw (aL 3 (ak jD [(a8 dIx (a5 0) (eC (.int 0)))])) (aw (aL 4 (fN [])) (aw (mw (xm (a5 1)) (bTup [5,6]) (aw (iq (a8 sE (a5 5) (eC (.int 0))) (aw (iq (pj (ak ib [(a5 0),(a5 2),(a8 dIx (a5 6) (eC (.int 0)))])) yB bg) (aw (aL 2 (ak kj [(a5 2),(a8 dIx (a5 6) (eC (.int 0)))])) (bj 4 (a8 oJ (eC (.int 1)) (a8 dIx (a5 6) (eC (.int 0))))))) bg) (qg (λ_=>5000) (a8 (CT 1) (bx (a8 dIx (a5 2) (eC (.int (-1)))) (some (eC (.int 1))) (some (eC (.int 3)))) (bx (a5 6) (some (eC (.int 1))) (some (eC (.int 3))))) (aw (aL 7 (ak ia [(a5 0),(a5 2),(a5 3)])) (aw (aL 2 (a8 dIx (a5 7) (eC (.int 0)))) (aw (aL 3 (a8 dIx (a5 7) (eC (.int 1)))) (bj 4 (eC (.int 0))))))))) (eV 4 (aV (a5 4)))))))
def gY:List D->Option R:=jl 2 8 su
def Cp:MC:=
 (aw (GM 1) (aw (mC 2 (ir 1 gH [(a5 0),(eC (.int 0)),(eC (.int 0))] [])) (aV (aD [(a5 2),(ak gY [(a5 0),(r6 1 bT [(a5 0)] [])])]))))
def mn:List D->Option R:=jl 1 3 Cp
def K2:MC:=
 (aw (aL 1 (ak gZ [(a5 0),(a8 dIx (fN [(eC (.int 1)),(eC (.int 2)),(eC (.int 4))]) (ak ax [(a5 0),(eC (.int 7)),(eC (.int 3))]))])) (aw (aL 2 (a8 kZ (aY (f1 cC) [(a8 dIx (a5 1) (eC (.int 1)))]) (eC (.int 1)))) (aw (aL 3 (ak kP [(a5 1),(a8 dIx (fN [(eC (.int 0)),(a8 kZ (a8 oJ (eC (.int 1)) (a8 aK (a5 2) (eC (.int 1)))) (eC (.int 2)))]) (ak ax [(a5 0),(eC (.int 90)),(eC (.int 2))]))])) (aw (aL 4 (l5 vz (cR [6] (jf (bx (a8 dIx (a5 3) (eC (.int 1))) (some (eC (.int 1))) none)) (aW 6) fo (a8 dIx (a5 6) (eC (.int 1)))))) (aw (aL 5 (ak mn [(a5 3)])) (aw (iq (AJ (pj (l5 (A0 "tuple") (a5 5))) (a8 xQ (aY (f1 cC) [(il 5)]) (eC (.int 2)))) (aV (eC (.bl false))) bg) (aV (fO (ak eQ [(a8 dIx (a5 5) (eC (.int 0)))]) (fO (a8 fM (a8 dIx (a5 5) (eC (.int 0))) (a5 4)) (ak jE [(a8 dIx (a5 5) (eC (.int 1))),(a5 2)]))))))))))
def AH:List D->Option R:=jl 1 7 K2
end
noncomputable section
def oj:MC:=(aw (aL 4 (cR [5] (jf (a8 dIx (a5 3) (eC (.int 2)))) (aW 5) fo (aD [(a8 dIx (a5 5) (eC (.int 0))),(eC (.int 0))]))) (aw (iq (a8 fM (a8 dIx (a5 3) (eC (.int 1))) (eC (.int 0))) (aL 4 (cR [5] (jf (a8 dIx (a5 3) (eC (.int 2)))) (aW 5) fo (aD [(a8 dIx (a5 5) (eC (.int 0))),(a8 vA (a8 dIx (a5 5) (eC (.int 1))) (a5 1))]))) bg) (eV 4 (bj 2 (aD [(a8 dIx (a5 3) (eC (.int 0))),(a8 dIx (a5 3) (eC (.int 1))),(ak (f1 eR) [(a5 4)])])))))
def uf:MC:=(aV (a8 km (a8 p8 (a8 km (a8 ip (a8 km (a8 ip (a8 aK (a5 3) (eC (.int 1))) (a8 aK (a8 aK (a8 ip (a5 1) (a5 1)) (a5 1)) (eC (.int 41)))) (eC (.int 999983))) (eC (.int 48271))) (eC (.int 2147483647))) (eC (.int 11))) (a5 2)))
def sH:MC:=(aw (aL 3 (fN [(ak bX [(a5 0),(a8 aK (eC (.int 10)) (a8 ip (eC (.int 4)) (a5 2)))]),(ak bX [(a5 0),(a8 aK (eC (.int 11)) (a8 ip (eC (.int 4)) (a5 2)))])])) (aw (aL 4 (a8 aK (eC (.int 1)) (ak ax [(a5 0),(a8 aK (eC (.int 12)) (a8 ip (eC (.int 4)) (a5 2))),(eC (.int 2))]))) (eV 3 (bj 1 (aD [(a8 tU (a8 dIx (eC (.str "abcdefgh")) (a5 2)) (a5 4)),(ak (f1 eR) [(bx (a5 3) none (some (a5 4)))])])))))
def ug:MC:=(aw (iq (a8 fM (a5 4) (eC (.str "put"))) (aV (aD [(eC (.str "put")),(a5 5),(ak (f1 eR) [(bx (fN [(a5 10),(l5 IT (a5 10))]) none (some (a5 6)))])])) bg) (aw (iq (fO (a8 fM (a5 4) (eC (.str "copy"))) (a8 xQ (a5 5) (a5 8))) (aV (aD [(eC (.str "copy")),(a5 5),(a5 8)])) bg) (aw (iq (a8 fM (a5 4) (eC (.str "grow"))) (aV (aD [(eC (.str "grow")),(a5 5),(a5 10)])) bg) (aw (iq (fO (a8 fM (a5 4) (eC (.str "tick"))) (a8 fM (a5 6) (eC (.int 1)))) (aV (aD [(eC (.str "tick")),(a5 5)])) bg) (aw (iq (AJ (a8 fM (a5 4) (eC (.str "is"))) (a8 fM (a5 4) (eC (.str "most")))) (aV (aD [(a5 4),(a5 5),(a5 8),(a5 10)])) bg) (aw (iq (a8 fM (a5 4) (eC (.str "none"))) (aV (aD [(eC (.str "none")),(a5 5)])) bg) (aw (iq (fO (a8 fM (a5 4) (eC (.str "anew"))) (fO (a8 xQ (a5 5) (a5 8)) (a8 sE (aY (f1 cC) [(il 9)]) (eC (.int 0))))) (eV 9 (aV (aD [(eC (.str "anew")),(a5 5),(a5 8),(a8 dIx (a5 9) (ak ax [(a5 1),(a8 aK (a5 2) (eC (.int 4))),(aY (f1 cC) [(il 9)])]))]))) bg) (aV (aD [(eC (.str "still")),(a8 aK (eC (.int 1)) (ak ax [(a5 1),(a8 aK (a5 2) (eC (.int 5))),(eC (.int 9))]))])))))))))
def rJ:MC:=(aV (aD [(eC (.str "still")),(a8 aK (eC (.int 1)) (ak ax [(a5 1),(a8 aK (a5 2) (eC (.int 5))),(eC (.int 9))]))]))
def kX:MC:=(aw (aL 8 (a8 aK (a8 aK (eC (.int 100)) (a8 ip (eC (.int 200)) (a5 5))) (a8 ip (eC (.int 12)) (a5 7)))) (bj 6 (aD [(ak gK [(a5 2),(a5 0),(a5 8)]),(ak gJ [(a5 0),(a8 aK (a5 8) (eC (.int 7))),(a5 3)])])))
def pz:MC:=(aw (aL 6 (fN [])) (aw (mw (dg (a8 aK (eC (.int 1)) (ak ax [(a5 0),(a8 aK (eC (.int 70)) (a5 5)),(a5 1)]))) (aW 7) (aw (aL 8 (a8 aK (a8 aK (eC (.int 100)) (a8 ip (eC (.int 200)) (a5 5))) (a8 ip (eC (.int 12)) (a5 7)))) (bj 6 (aD [(ak gK [(a5 2),(a5 0),(a5 8)]),(ak gJ [(a5 0),(a8 aK (a5 8) (eC (.int 7))),(a5 3)])])))) (iq (a8 fM (a5 5) (eC (.int 0))) (eV 6 (bj 4 (aD [(eC (.str "main")),(eC (.int 0)),(ak (f1 eR) [(a5 6)])]))) (eV 6 (bj 4 (aD [(a8 tU (a8 dIx (eC (.str "klmnop")) (a8 kZ (a5 5) (eC (.int 1)))) (a8 aK (eC (.int 1)) (a8 km (a5 5) (eC (.int 2))))),(ak jg [(a5 0),(a5 5)]),(ak (f1 eR) [(a5 6)])]))))))
def sG:MC:=(iq (AJ (pj (ak eQ [(a5 2)])) (AJ (a8 Fk (a5 2) (eC (.int 0))) (AJ (a8 fM (a8 kn (a5 2) (eC (.int 1))) (eC (.int 1))) (a8 xQ (a8 pq (a5 2) (a8 aK (a5 1) (eC (.int 1)))) (eC (.int 0)))))) (aV (eC (.bl false))) bg)
def vN:MC:=(iq (fO (a8 sE (a8 dIx (a8 dIx (a5 3) (a5 7)) (eC (.int 1))) (a8 dIx (a8 dIx (a5 3) (a5 1)) (eC (.int 1)))) (a8 fM (a8 kn (a8 pq (a5 6) (a5 7)) (eC (.int 1))) (eC (.int 0)))) (bj 4 (aD [(a5 5),(a5 7),(a5 6)])) bg)
def vM:MC:=(aw (aL 6 (a8 vA (a5 2) (ak fL [(a5 0),(a5 1),(a5 5)]))) (mw (mj (eC (.int 1)) (aY (f1 cC) [(il 3)])) (aW 7) (iq (fO (a8 sE (a8 dIx (a8 dIx (a5 3) (a5 7)) (eC (.int 1))) (a8 dIx (a8 dIx (a5 3) (a5 1)) (eC (.int 1)))) (a8 fM (a8 kn (a8 pq (a5 6) (a5 7)) (eC (.int 1))) (eC (.int 0)))) (bj 4 (aD [(a5 5),(a5 7),(a5 6)])) bg)))
def mZ:MC:=(aw (aL 5 (xO 1 (ak cX [(a5 0),(a5 3),(a5 4)]) (D9 1 (aD [(a8 dIx (a5 0) (eC (.int 1))),(a8 dIx (a5 0) (eC (.int 2)))])))) (aw (bj 2 (aD [(a5 3),(a8 dIx (a5 5) (eC (.int 0))),(eC (.int 0))])) (aw (aL 3 (a8 dIx (a5 5) (eC (.int 1)))) (aL 4 (a8 dIx (a5 5) (eC (.int 2)))))))
def y0:MC:=(aL 2 (a8 vA (a5 2) (ak fL [(a5 0),(a8 dIx (a5 3) (eC (.int 0))),(a8 dIx (a5 3) (eC (.int 1)))])))
def sF:MC:=(nH 1 (a8 dIx (a5 2) (eC (.int 1))))
def pw:MC:=(aw (aL 7 (ak ia [(a5 0),(a5 2),(a5 3)])) (aw (aL 2 (a8 dIx (a5 7) (eC (.int 0)))) (aw (aL 3 (a8 dIx (a5 7) (eC (.int 1)))) (bj 4 (eC (.int 0))))))
def aF:MC:=(aw (iq (a8 sE (a5 5) (eC (.int 0))) (aw (iq (pj (ak ib [(a5 0),(a5 2),(a8 dIx (a5 6) (eC (.int 0)))])) yB bg) (aw (aL 2 (ak kj [(a5 2),(a8 dIx (a5 6) (eC (.int 0)))])) (bj 4 (a8 oJ (eC (.int 1)) (a8 dIx (a5 6) (eC (.int 0))))))) bg) (qg (λ_=>5000) (a8 (CT 1) (bx (a8 dIx (a5 2) (eC (.int (-1)))) (some (eC (.int 1))) (some (eC (.int 3)))) (bx (a5 6) (some (eC (.int 1))) (some (eC (.int 3))))) (aw (aL 7 (ak ia [(a5 0),(a5 2),(a5 3)])) (aw (aL 2 (a8 dIx (a5 7) (eC (.int 0)))) (aw (aL 3 (a8 dIx (a5 7) (eC (.int 1)))) (bj 4 (eC (.int 0))))))))
def oi:MC:=(qg (λ_=>5000) (a8 (CT 1) (bx (a8 dIx (a5 2) (eC (.int (-1)))) (some (eC (.int 1))) (some (eC (.int 3)))) (bx (a5 6) (some (eC (.int 1))) (some (eC (.int 3))))) (aw (aL 7 (ak ia [(a5 0),(a5 2),(a5 3)])) (aw (aL 2 (a8 dIx (a5 7) (eC (.int 0)))) (aw (aL 3 (a8 dIx (a5 7) (eC (.int 1)))) (bj 4 (eC (.int 0)))))))
end
abbrev Bx:=Str×List Int
def bD(b:Bx):D:=.tup [.str b.1,.tup (b.2.map D.int)]
def cK(bs:List Bx):D:=.tup (bs.map bD)
def lR(i:Int):Prop:=-1000000000<=i/\i<=1000000000
def BxOk(b:Bx):Prop:=1<=b.2.length/\b.2.length<=2/\∀i∈b.2,lR i
def eU(bs:List Bx):Prop:=bs.length<=8/\∀b∈bs,BxOk b
noncomputable def szB(bs:List Bx)(x:Nat):Nat:=(bs.getD x (Str.empty,[])).2.length
inductive Deed where
 |put (x:Nat) (ns:List Int)|copy (x y:Nat)|grow (x:Nat) (n:Int)|tick (x:Nat)|still (n:Nat)
 |iz (x y:Nat) (n:Int)|most (x y:Nat) (n:Int)|non (x:Nat)|anew (x y t:Nat)
def Deed.d:Deed->D
 |.put x ns=>.tup [.str (Str.ofString "put"),.int x,.tup (ns.map D.int)]
 |.copy x y=>.tup [.str (Str.ofString "copy"),.int x,.int y]
 |.grow x n=>.tup [.str (Str.ofString "grow"),.int x,.int n]
 |.tick x=>.tup [.str (Str.ofString "tick"),.int x]
 |.still n=>.tup [.str (Str.ofString "still"),.int n]
 |.iz x y n=>.tup [.str (Str.ofString "is"),.int x,.int y,.int n]
 |.most x y n=>.tup [.str (Str.ofString "most"),.int x,.int y,.int n]
 |.non x=>.tup [.str (Str.ofString "none"),.int x]
 |.anew x y t=>.tup [.str (Str.ofString "anew"),.int x,.int y,.int t]
def Deed.Ok(bs:List Bx):Deed->Prop
 |.put x ns=>x<bs.length/\ns.length=szB bs x/\∀i∈ns,lR i
 |.copy x y=>x<bs.length/\y<bs.length/\x≠y/\szB bs y=szB bs x
 |.grow x n=>x<bs.length/\lR n
 |.tick x=>x<bs.length/\szB bs x=1
 |.still n=>1<=n/\n<=9
 |.iz x y n=>x<bs.length/\y<bs.length/\szB bs y=szB bs x/\lR n
 |.most x y n=>x<bs.length/\y<bs.length/\szB bs y=szB bs x/\lR n
 |.non x=>x<bs.length
 |.anew x y t=>x<bs.length/\y<bs.length/\t<bs.length/\x≠y/\x≠t/\y≠t/\szB bs y=szB bs x/\szB bs t=1
abbrev Pl:=Deed×Nat
structure Rw where
 nm:Str
 rk:Nat
 pl:List Pl
def Aq(p:Pl):D:=.tup [p.1.d,.int p.2]
def Rw.d(r:Rw):D:=.tup [.str r.nm,.int r.rk,.tup (r.pl.map Aq)]
def aQ(bs:List Bx)(rs:List Rw):D:=.tup [cK bs,.tup (rs.map Rw.d)]
theorem rh(ds:List D):cC (.tup ds)=okI (ds.length:Int):=rfl
theorem nZ(ds:List D):cC (.lst ds)=okI (ds.length:Int):=rfl
theorem Ex{bs:List Bx}{x:Nat}(h:x<bs.length):dIx (cK bs) (.int x)=okD (bD bs[x]):=ix_tup (by rw[getElem?_map,getElem?_eq_getElem h];rfl)
theorem oC(bs:List Bx):cC (cK bs)=okI (bs.length:Int):=by show okI ((bs.map bD).length:Int)=_;rw[length_map]
theorem ym{bs:List Bx}{x:Nat}(h:x<bs.length):szB bs x=bs[x].2.length:=by
 unfold szB;rw[getD_eq_getElem?_getD,getElem?_eq_getElem h];rfl
theorem Ei(ns:List Int):cC (.tup (ns.map D.int))=okI (ns.length:Int):=by show okI ((ns.map D.int).length:Int)=_;rw[length_map]
theorem Ey(b:Bx):dIx (bD b) (.int 1)=okD (.tup (b.2.map D.int)):=cg
theorem um{bs:List Bx}{x:Nat}(h:x<bs.length){ρ:MEnv}{i j:Nat}(hi:ρ[i]?=some (some (.sh (cK bs))))(hj:ρ[j]?=some (some (.sh (.int x)))):aY (f1 cC) [a8 dIx (a8 dIx (a5 i) (a5 j)) (eC (.int 1))] ρ=okI (szB bs x:Nat):=by
 rw[ym h];exact jO (a6 (a6 (bq hi) (bq hj) (Ex h)) rfl (Ey _)) (Ei _)
theorem dX{bs:List Bx}(hb:eU bs){x:Nat}(h:x<bs.length):szB bs x=1\/szB bs x=2:=by
 have hx:=hb.2 bs[x] (getElem_mem h);rw[ym h];have:=hx.1;have:=hx.2.1;omega
abbrev intD(k:Nat):D:=.int k
theorem L8(i j:Nat):fM (.int i) (.int j)=okB (decide (i=j)):=by rw[IL,show decide ((i:Int)=(j:Int))=decide (i=j) from decide_eq_decide.mpr (by omega)]
theorem Ln(i j:Nat):xQ (.int i) (.int j)=okB (!decide (i=j)):=by rw[Io,show decide ((i:Int)=(j:Int))=decide (i=j) from decide_eq_decide.mpr (by omega)]
theorem LC(i j:Nat):sE (.int i) (.int j)=okB (decide (j<i)):=by rw[IG,show decide ((j:Int)<(i:Int))=decide (j<i) from decide_eq_decide.mpr (by omega)]
theorem Ff{ρ:MEnv}{a b:ME}{p q:Bool}(h1:a ρ=okB p)(h2:b ρ=okB q):fO a b ρ=okB (p && q):=by
 cases p with
 |true=>exact iA h1 h2
 |false=>exact ft h1
theorem Ew{l:List Nat}{j:Nat}(h:j<l.length):dIx (.lst (l.map intD)) (.int j)=okI (l[j]:Nat):=cB (by rw[getElem?_map,getElem?_eq_getElem h];rfl)
theorem tR{sc:D}{k m c:Int}(h0:0<=k)(h1:k<=100000)(hm:0<m)(hc:0<=c):∃n:Nat,uf [some (.sh sc),some (.sh (.int k)),some (.sh (.int m)),some (.sh (.int c))]=some (.ret (.sh (.int (n:Int))))/\(n:Int)<m:=by
 have hk:k * k<=100000 * 100000:=Int.mul_le_mul h1 h1 h0 (by decide)
 have hk0:0<=k * k:=Int.mul_nonneg h0 h0;have hp:=emod_nonneg ((c+1) * (k * k+k+41) % 999983 * 48271 % 2147483647 / 11) (b:=m) (by omega)
 have hq:=Int.emod_lt_of_pos ((c+1) * (k * k+k+41) % 999983 * 48271 % 2147483647 / 11) hm;refine⟨((c+1) * (k * k+k+41) % 999983 * 48271 % 2147483647 / 11 % m).toNat,?_,by omega⟩
 rw[Int.toNat_of_nonneg hp];exact aN (a6 (a6 (a6 (a6 (a6 (a6 (a6 rfl rfl rfl) (a6 (a6 (a6 rfl rfl (Cf (by omega) (by omega))) rfl rfl) rfl rfl) (Ip (by omega) (by omega))) rfl (iN (by decide))) rfl (Ip (by decide) (by decide))) rfl (iN (by decide))) rfl (xI (by decide) (by decide))) rfl (iN hm))
theorem gw{ns:List Int}{k m:Int}(h0:0<=k)(h1:k<=100000)(hm:0<m):∃n:Nat,ax [.lst (ns.map D.int),.int k,.int m]=okI n/\(n:Int)<m:=by
 cases ns with
 |nil=>
  obtain⟨n,e,hn⟩:=tR (sc:=.lst []) (c:=0) h0 h1 hm (by decide)
  exact⟨n,aH rfl (a9 (ay rfl) (a9 (aJ rfl rfl) e)),hn⟩
 |cons a ns=>
  have hl:(0:Int)<((a::ns).length:Int):=by rw[length_cons];omega
  have hp:0<=k % ((a::ns).length:Int):=emod_nonneg _ (by omega)
  have hq:k % ((a::ns).length:Int)<((a::ns).length:Int):=Int.emod_lt_of_pos _ hl;have hlen:cC (.lst ((a::ns).map D.int))=okI ((a::ns).length:Int):=by show okI (((a::ns).map D.int).length:Int)=_;rw[length_map]
  have hix:dIx (.lst ((a::ns).map D.int)) (.int (k % ((a::ns).length:Int)))=okI ((a::ns).getD (k % ((a::ns).length:Int)).toNat 0):=by
   have e:((a::ns).map D.int)[(k % ((a::ns).length:Int)).toNat]?=some (.int ((a::ns).getD (k % ((a::ns).length:Int)).toNat 0)):=by
    have hi:(k % ((a::ns).length:Int)).toNat<(a::ns).length:=by omega
    rw[getElem?_map,getD_eq_getElem?_getD,getElem?_eq_getElem hi];rfl
   have z:=cB e;rwa[Int.toNat_of_nonneg hp] at z
  obtain⟨n,e,hn⟩:=tR (sc:=.lst ((a::ns).map D.int)) (c:=(a::ns).getD (k % ((a::ns).length:Int)).toNat 0 % 1000003) h0 h1 hm (emod_nonneg _ (by decide))
  refine⟨n,aH rfl (a9 (ay rfl) (a9 (gG (a6 (jO rfl hlen) rfl ?_) (ay (a6 (a6 rfl (a6 rfl (jO rfl hlen) (iN hl)) hix) rfl (iN (by decide))))) e)),hn⟩
  show okB (decide (0<((a::ns).length:Int)))=_;rw[decide_eq_true hl]
theorem numN{ns:List Int}{k:Int}(h0:0<=k)(h1:k<=90000):∃v:Int,bX [.lst (ns.map D.int),.int k]=okI v/\lR v:=by
 obtain⟨f,df,hf⟩:=gw (ns:=ns) (k:=k) (m:=2000) h0 (by omega) (by decide)
 obtain⟨i,di,hi⟩:=gw (ns:=ns) (k:=k+4000) (m:=4) (by omega) (by omega) (by decide)
 have hp:CS (.int 10) (.int 9)=okI 1000000000:=rfl;have f7:=emod_nonneg (f:Int) (b:=7) (by decide)
 have f7':=Int.emod_lt_of_pos (f:Int) (b:=7) (by decide)
 have f5:=emod_nonneg (f:Int) (b:=5) (by decide)
 have f5':=Int.emod_lt_of_pos (f:Int) (b:=5) (by decide)
 have menu:∀ρ:MEnv,ρ[2]?=some (some (.sh (.int f)))->fN [(a8 kZ (a8 km (a5 2) (eC (.int 7))) (eC (.int 3))),(a8 kZ (a8 CS (eC (.int 10)) (eC (.int 9))) (a8 km (a5 2) (eC (.int 5)))),(a8 kZ (a8 km (a5 2) (eC (.int 5))) (a8 CS (eC (.int 10)) (eC (.int 9)))),(a8 ip (a5 2) (eC (.int 499999)))] ρ=okL [.int ((f:Int) % 7 - 3),.int (1000000000 - (f:Int) % 5),.int ((f:Int) % 5 - 1000000000),.int ((f:Int) * 499999)]:=λρ h=>
  og (a6 (a6 (bq h) rfl (iN (by decide))) rfl rfl) (a6 (a6 rfl rfl hp) (a6 (bq h) rfl (iN (by decide))) rfl) (a6 (a6 (bq h) rfl (iN (by decide))) (a6 rfl rfl hp) rfl) (a6 (bq h) rfl (Ip (by decide) (by decide))) rfl
 have go:∀v:Int,dIx (.lst [.int ((f:Int) % 7 - 3),.int (1000000000 - (f:Int) % 5),.int ((f:Int) % 5 - 1000000000),.int ((f:Int) * 499999)]) (.int (i:Int))=okI v->bX [.lst (ns.map D.int),.int k]=okI v:=λv hv=>
  aH rfl (a9 (ay (aU rfl rfl rfl df)) (a9 (ay (menu _ rfl)) (cI (aN (a6 rfl (aU rfl (a6 rfl rfl rfl) rfl di) hv)))))
 match i,hi,go with
 |0,_,go=>exact⟨_,go _ qS,by unfold lR;omega⟩
 |1,_,go=>exact⟨_,go _ xi,by unfold lR;omega⟩
 |2,_,go=>exact⟨_,go _ AC,by unfold lR;omega⟩
 |3,_,go=>exact⟨_,go _ (cB (n:=3) rfl),by unfold lR;omega⟩
 |n+4,hi,_=>omega
theorem Ec{x:Str}{n:Nat}(h:x.length=1)(hn:n=1\/n=2):∃y,tU (.str x) (.int (n:Int))=okD (.str y):=by
 have hc:x.length=1/\((n:Int)=1\/(n:Int)=2):=⟨h,by omega⟩
 exact⟨_,if_pos hc⟩
theorem Eh{b:Nat}(h:b<8):∃c:Nat,dIx (.str (Str.ofString "abcdefgh")) (.int (b:Int))=okD (.str ⟨#[c]⟩):=by
 match b,h with
 |0,_=>exact⟨97,rfl⟩
 |1,_=>exact⟨98,rfl⟩
 |2,_=>exact⟨99,rfl⟩
 |3,_=>exact⟨100,rfl⟩
 |4,_=>exact⟨101,rfl⟩
 |5,_=>exact⟨102,rfl⟩
 |6,_=>exact⟨103,rfl⟩
 |7,_=>exact⟨104,rfl⟩
theorem Dj{a b:Int}{n:Nat}(hn:n=1\/n=2){ρ:MEnv}{e:ME}{s:S}(h:e ρ=some (.ok s))(hv:s.val=.lst [.int a,.int b]){e1:ME}(h1:e1 ρ=okI (n:Int)):bx e none (some e1) ρ=okL (([a,b].take n).map D.int):=by
 unfold bx;rw[h];simp only[bindV_ok,Au,hv,h1,S.val_sh];rcases hn with rfl|rfl <;> rfl
theorem Fd{ns:List Int}:∃bs:List Bx,jF [.lst (ns.map D.int)]=okD (cK bs)/\1<=bs.length/\eU bs:=by
 obtain⟨i,di,hi⟩:=gw (ns:=ns) (k:=3) (m:=8) (by decide) (by decide) (by decide)
 have hcount:∃m:Nat,dIx (.lst [.int 1,.int 2,.int 3,.int 3,.int 4,.int 4,.int 5,.int 8]) (.int (i:Int))=okI (m:Int)/\1<=m/\m<=8:=by
  match i,hi with
  |0,_=>exact⟨1,rfl,by decide,by decide⟩
  |1,_=>exact⟨2,rfl,by decide,by decide⟩
  |2,_=>exact⟨3,rfl,by decide,by decide⟩
  |3,_=>exact⟨3,rfl,by decide,by decide⟩
  |4,_=>exact⟨4,rfl,by decide,by decide⟩
  |5,_=>exact⟨4,rfl,by decide,by decide⟩
  |6,_=>exact⟨5,rfl,by decide,by decide⟩
  |7,_=>exact⟨8,rfl,by decide,by decide⟩
  |n+8,hi=>omega
 obtain⟨m,hm,m1,m8⟩:=hcount;have step:∀(k:Nat)(ρ:MEnv),k<m->(∃bs:List Bx,bs.length=k/\(∀b∈bs,BxOk b)/\∃e2 e3 e4:Option S,ρ=[some (.sh (.lst (ns.map D.int))),some (.own (.lst (bs.map bD))),e2,e3,e4])->
   ∃ρ1 ρ2,aW 2 (.int k) ρ=some ρ1/\sH ρ1=some (.next ρ2)/\(∃bs:List Bx,bs.length=k+1/\(∀b∈bs,BxOk b)/\∃e2 e3 e4:Option S,ρ2=[some (.sh (.lst (ns.map D.int))),some (.own (.lst (bs.map bD))),e2,e3,e4]):=by
  rintro k ρ hk ⟨bs,hl,hs,e2,e3,e4,rfl⟩
  obtain⟨a,ea,oa⟩:=numN (ns:=ns) (k:=10+4 * (k:Int)) (by omega) (by omega)
  obtain⟨b,eb,ob⟩:=numN (ns:=ns) (k:=11+4 * (k:Int)) (by omega) (by omega)
  obtain⟨j,ej,hj⟩:=gw (ns:=ns) (k:=12+4 * (k:Int)) (m:=2) (by omega) (by omega) (by decide)
  obtain⟨c,ec⟩:=Eh (b:=k) (by omega)
  have h12:1+j=1\/1+j=2:=by omega
  obtain⟨y,ey⟩:=Ec (x:=⟨#[c]⟩) rfl h12;have e1j:aK (.int 1) (.int (j:Int))=okI ((1+j:Nat):Int):=by rw[add_int];congr 4
  refine⟨_,_,rfl,a9 (ay (bA (bA rfl (a6 rfl (a6 rfl rfl (Cf (by decide) (by decide))) rfl) ea) (bA rfl (a6 rfl (a6 rfl rfl (Cf (by decide) (by decide))) rfl) eb) rfl)) (a9 (ay (a6 rfl (aU rfl (a6 rfl (a6 rfl rfl (Cf (by decide) (by decide))) rfl) rfl ej) e1j)) (cI (fq (s:=.sh (bD (y,[a,b].take (1+j)))) rfl (l6 (s1:=.sh (.str y)) (s2:=.sh (.tup (([a,b].take (1+j)).map D.int))) (a6 (a6 rfl rfl ec) rfl ey) (bL (Dj h12 rfl rfl rfl) rfl)) ?_))),bs++[(y,[a,b].take (1+j))],by rw[length_append,hl];rfl,?_,some (.sh (.int (k:Int))),some (.sh (.lst [.int a,.int b])),some (.sh (.int ((1+j:Nat):Int))),?_⟩
  ·rw[length_map,hl];exact lt_of_lt_of_le (by omega:k<8) (by decide)
  ·intro z hz;rcases mem_append.mp hz with h|h
   ·exact hs z h
   ·rw[mem_singleton.mp h];refine⟨by show 1<=([a,b].take (1+j)).length;rw[length_take];show 1<=min (1+j) 2;omega,by show([a,b].take (1+j)).length<=2;rw[length_take];show min (1+j) 2<=2;omega,λi hi=>?_⟩
    have hi':=List.mem_of_mem_take hi;rcases mem_cons.mp hi' with rfl|hi'
    ·exact oa
    ·rw[mem_singleton.mp hi'];exact ob
  ·rw[map_append];rfl
 obtain⟨ρ',e,bs,hl,hs,e2,e3,e4,rfl⟩:=mW (ρ:=[some (.sh (.lst (ns.map D.int))),some (.own (.lst [])),none,none,none]) (λk ρ=>∃bs:List Bx,bs.length=k/\(∀b∈bs,BxOk b)/\∃e2 e3 e4:Option S,ρ=[some (.sh (.lst (ns.map D.int))),some (.own (.lst (bs.map bD))),e2,e3,e4]) m ⟨[],rfl,λ_ h=>(nomatch h),none,none,none,rfl⟩ step
 refine⟨bs,aH rfl (a9 (ay rfl) (a9 (lL (j4 (a6 (s:=.own (.lst [.int 1,.int 2,.int 3,.int 3,.int 4,.int 4,.int 5,.int 8])) rfl (aU rfl rfl rfl di) hm) (dy (by omega))) e) (cI (aN (bL rfl rfl))))),by omega,by omega,hs⟩
def jo(bs:List Bx)(x:Nat):List Nat:=(List.range bs.length).filter λy=>decide (szB bs y=szB bs x)
def kb(bs:List Bx)(x y:Nat):List Nat:=(List.range bs.length).filter λt=>decide (szB bs t=1) && (!decide (t=x) && !decide (t=y))
theorem sU{bs:List Bx}{x y:Nat}:y∈jo bs x↔y<bs.length/\szB bs y=szB bs x:=by
 unfold jo;rw[mem_filter,mem_range];simp
theorem Cu{bs:List Bx}{x y t:Nat}:t∈kb bs x y↔t<bs.length/\szB bs t=1/\t≠x/\t≠y:=by
 unfold kb;rw[mem_filter,mem_range];simp
theorem Bw{bs:List Bx}{x:Nat}:(jo bs x).length<=bs.length:=by
 unfold jo;refine le_trans (List.length_filter_le _ _) ?_;rw[length_range];exact le_refl _
theorem Cv{bs:List Bx}{x y:Nat}:(kb bs x y).length<=bs.length:=by
 unfold kb;refine le_trans (List.length_filter_le _ _) ?_;rw[length_range];exact le_refl _
theorem nX(l:List Nat):cC (.lst (l.map intD))=okI (l.length:Int):=by rw[nZ,length_map]
theorem bf{bs:List Bx}{a b:MC}{ρ ρ':MEnv}(h:a ρ=some (.next ρ'))(t:∃dd:Deed,dd.Ok bs/\b ρ'=some (.ret (.sh dd.d))):∃dd:Deed,dd.Ok bs/\aw a b ρ=some (.ret (.sh dd.d)):=by
 obtain⟨dd,ok,e⟩:=t;exact⟨dd,ok,a9 h e⟩
abbrev oE:List D:=[.str (Str.ofString "put"),.str (Str.ofString "copy"),.str (Str.ofString "grow"),.str (Str.ofString "tick"),.str (Str.ofString "still"),.str (Str.ofString "is"),.str (Str.ofString "most"),.str (Str.ofString "none"),.str (Str.ofString "anew"),.str (Str.ofString "grow"),.str (Str.ofString "put"),.str (Str.ofString "anew")]
inductive Kd:Str->Prop
 |put:Kd (Str.ofString "put")|copy:Kd (Str.ofString "copy")|grow:Kd (Str.ofString "grow")|tick:Kd (Str.ofString "tick")|still:Kd (Str.ofString "still")
 |iz:Kd (Str.ofString "is")|most:Kd (Str.ofString "most")|non:Kd (Str.ofString "none")|anew:Kd (Str.ofString "anew")
theorem Ir{i:Nat}(h:i<12):∃s,Kd s/\dIx (.lst oE) (.int (i:Int))=okD (.str s):=by
 match i,h with
 |0,_=>exact⟨_,.put,cB (n:=0) rfl⟩
 |1,_=>exact⟨_,.copy,cB (n:=1) rfl⟩
 |2,_=>exact⟨_,.grow,cB (n:=2) rfl⟩
 |3,_=>exact⟨_,.tick,cB (n:=3) rfl⟩
 |4,_=>exact⟨_,.still,cB (n:=4) rfl⟩
 |5,_=>exact⟨_,.iz,cB (n:=5) rfl⟩
 |6,_=>exact⟨_,.most,cB (n:=6) rfl⟩
 |7,_=>exact⟨_,.non,cB (n:=7) rfl⟩
 |8,_=>exact⟨_,.anew,cB (n:=8) rfl⟩
 |9,_=>exact⟨_,.grow,cB (n:=9) rfl⟩
 |10,_=>exact⟨_,.put,cB (n:=10) rfl⟩
 |11,_=>exact⟨_,.anew,cB (n:=11) rfl⟩
set_option maxHeartbeats 4000000 in
theorem Gu{ns:List Int}{bs:List Bx}(hb:eU bs)(h1:1<=bs.length){k:Int}(hk0:0<=k)(hk1:k<=2000):∃dd:Deed,dd.Ok bs/\gK [cK bs,.lst (ns.map D.int),.int k]=okD dd.d:=by
 obtain⟨i,di,hi⟩:=gw (ns:=ns) (k:=k) (m:=12) hk0 (by omega) (by decide)
 obtain⟨kd,hkd,ekd⟩:=Ir (i:=i) (by omega)
 obtain⟨x,dx,hx⟩:=gw (ns:=ns) (k:=k+1) (m:=bs.length) (by omega) (by omega) (by omega)
 have hx:x<bs.length:=by omega
 have h12:=dX hb hx;have b8:=hb.1;have sl:=Bw (bs:=bs) (x:=x);have s0:0<(jo bs x).length:=List.length_pos_of_mem (sU.mpr ⟨hx,rfl⟩);obtain⟨j,dj,hj⟩:=gw (ns:=ns) (k:=k+2) (m:=((jo bs x).length:Int)) (by omega) (by omega) (by omega)
 have hj:j<(jo bs x).length:=by omega
 have ey:dIx (.lst ((jo bs x).map intD)) (.int (j:Int))=okI ((jo bs x)[j]:Nat):=Ew hj;have hy:=sU.mp (getElem_mem hj);generalize (jo bs x)[j]=y at ey hy;obtain⟨n,en,on⟩:=numN (ns:=ns) (k:=k+3) (by omega) (by omega)
 have ol:=Cv (bs:=bs) (x:=x) (y:=y);have hsame:cR [11] (dg (aY (f1 cC) [(il 0)])) (aW 11) (a8 fM (aY (f1 cC) [(a8 dIx (a8 dIx (a5 0) (a5 11)) (eC (.int 1)))]) (a5 6)) (a5 11) [some (.sh (cK bs)),some (.sh (.lst (ns.map D.int))),some (.sh (.int k)),some (.sh (.lst oE)),some (.sh (.str kd)),some (.sh (.int x)),some (.sh (.int (szB bs x:Nat))),none,none,none,none,none]=okL ((jo bs x).map intD):=by
  refine vC (List.range bs.length) intD (λy=>decide (szB bs y=szB bs x)) intD ?_ (by rw[length_range];exact le_trans b8 (by decide)) λt ht=>?_
  ·rw[←yC];exact j4 (jO (u7 rfl) (oC bs)) (dy (by omega))
  ·exact⟨_,rfl,a6 (um (mem_range.mp ht) rfl rfl) rfl (L8 _ _),λ_=>⟨_,rfl,rfl⟩⟩
 have hones:cR [11] (dg (aY (f1 cC) [(il 0)])) (aW 11) (fO (a8 fM (aY (f1 cC) [(a8 dIx (a8 dIx (a5 0) (a5 11)) (eC (.int 1)))]) (eC (.int 1))) (fO (a8 xQ (a5 11) (a5 5)) (a8 xQ (a5 11) (a5 8)))) (a5 11) [some (.sh (cK bs)),some (.sh (.lst (ns.map D.int))),some (.sh (.int k)),some (.sh (.lst oE)),some (.sh (.str kd)),some (.sh (.int x)),some (.sh (.int (szB bs x:Nat))),some (.sh (.lst ((jo bs x).map intD))),some (.sh (.int y)),none,none,none]=okL ((kb bs x y).map intD):=by
  refine vC (List.range bs.length) intD (λt=>decide (szB bs t=1) && (!decide (t=x) && !decide (t=y))) intD ?_ (by rw[length_range];exact le_trans b8 (by decide)) λt ht=>?_
  ·rw[←yC];exact j4 (jO (u7 rfl) (oC bs)) (dy (by omega))
  ·exact⟨_,rfl,Ff (a6 (um (mem_range.mp ht) rfl rfl) rfl (L8 _ 1)) (Ff (a6 rfl rfl (Ln t x)) (a6 rfl rfl (Ln t y))),λ_=>⟨_,rfl,rfl⟩⟩
 have kinds:∀ρ:MEnv,fN [(eC (.str (Str.ofString "put"))),(eC (.str (Str.ofString "copy"))),(eC (.str (Str.ofString "grow"))),(eC (.str (Str.ofString "tick"))),(eC (.str (Str.ofString "still"))),(eC (.str (Str.ofString "is"))),(eC (.str (Str.ofString "most"))),(eC (.str (Str.ofString "none"))),(eC (.str (Str.ofString "anew"))),(eC (.str (Str.ofString "grow"))),(eC (.str (Str.ofString "put"))),(eC (.str (Str.ofString "anew")))] ρ=okL oE:=λ_=>rfl
 suffices z:∃dd:Deed,dd.Ok bs/\ug [some (.sh (cK bs)),some (.sh (.lst (ns.map D.int))),some (.sh (.int k)),some (.sh (.lst oE)),some (.sh (.str kd)),some (.sh (.int x)),some (.sh (.int (szB bs x:Nat))),some (.sh (.lst ((jo bs x).map intD))),some (.sh (.int y)),some (.own (.lst ((kb bs x y).map intD))),some (.sh (.int n)),none]=some (.ret (.sh dd.d)) by
  obtain⟨dd,ok,e⟩:=z;exact⟨dd,ok,aH rfl (a9 (ay (kinds _)) (cI (a9 (ay (a6 rfl (aU rfl rfl rfl di) ekd)) (a9 (ay (aU rfl (a6 rfl rfl rfl) (jO rfl (oC bs)) dx)) (a9 (ay (um hx rfl rfl)) (a9 (ay hsame) (cI (a9 (ay (a6 rfl (aU rfl (a6 rfl rfl rfl) (jO rfl (nX _)) dj) ey)) (a9 (ay hones) (a9 (ay (bA rfl (a6 rfl rfl rfl) en)) e))))))))))⟩
 have still:∀kd:Str,∃dd:Deed,dd.Ok bs/\rJ [some (.sh (cK bs)),some (.sh (.lst (ns.map D.int))),some (.sh (.int k)),some (.sh (.lst oE)),some (.sh (.str kd)),some (.sh (.int x)),some (.sh (.int (szB bs x:Nat))),some (.sh (.lst ((jo bs x).map intD))),some (.sh (.int y)),some (.own (.lst ((kb bs x y).map intD))),some (.sh (.int n)),none]=some (.ret (.sh dd.d)):=λkd=>by
  obtain⟨m,dm,hm⟩:=gw (ns:=ns) (k:=k+5) (m:=9) (by omega) (by omega) (by decide)
  refine⟨.still (1+m),⟨by omega,by omega⟩,aN (bA (s2:=.sh (.int ((1+m:Nat):Int))) rfl (a6 rfl (aU rfl (a6 rfl rfl rfl) rfl dm) ?_) rfl)⟩
  show okI (1+(m:Int))=okI ((1+m:Nat):Int);congr 4
 have f:∀{a b:Str}{ρ:MEnv},ρ[4]?=some (some (.sh (.str b)))->b≠a->a8 fM (a5 4) (eC (.str a)) ρ=okB false:=λh e=>a6 (bq h) rfl (aM e);have t:∀{a:Str}{ρ:MEnv},ρ[4]?=some (some (.sh (.str a)))->a8 fM (a5 4) (eC (.str a)) ρ=okB true:=λh=>a6 (bq h) rfl (iT rfl);cases hkd with
 |put=>
  refine⟨.put x ([n,-n].take (szB bs x)),⟨hx,?_,λi hi=>?_⟩,c9 (gG (t rfl) (aN (aU rfl rfl (bL (Dj h12 (bA rfl (ud rfl rfl) rfl) rfl rfl) rfl) rfl)))⟩
  ·rw[length_take];show min (szB bs x) 2=_;omega
  ·have hi':=List.mem_of_mem_take hi;unfold lR at on ⊢;rcases mem_cons.mp hi' with rfl|hi'
   ·exact on
   ·rw[mem_singleton.mp hi'];omega
 |copy=>
  refine bf (aJ (f rfl (by decide)) rfl) ?_
  by_cases c:x=y
  ·exact bf (aJ (iA (t rfl) (a6 rfl rfl (G5 (by omega)))) rfl) (bf (aJ (f rfl (by decide)) rfl) (bf (aJ (ft (f rfl (by decide))) rfl) (bf (aJ (rR (f rfl (by decide)) (f rfl (by decide))) rfl) (bf (aJ (f rfl (by decide)) rfl) (bf (aJ (ft (f rfl (by decide))) rfl) (still _))))))
  ·exact⟨.copy x y,⟨hx,hy.1,c,hy.2⟩,c9 (gG (iA (t rfl) (a6 rfl rfl (Im (by omega)))) (aN (aU rfl rfl rfl rfl)))⟩
 |grow=>exact bf (aJ (f rfl (by decide)) rfl) (bf (aJ (ft (f rfl (by decide))) rfl) ⟨.grow x n,⟨hx,on⟩,c9 (gG (t rfl) (aN (aU rfl rfl rfl rfl)))⟩)
 |tick=>
  refine bf (aJ (f rfl (by decide)) rfl) (bf (aJ (ft (f rfl (by decide))) rfl) (bf (aJ (f rfl (by decide)) rfl) ?_))
  by_cases c:szB bs x=1
  ·exact⟨.tick x,⟨hx,c⟩,c9 (gG (iA (t rfl) (a6 rfl rfl (zQ (by omega)))) (aN (bA rfl rfl rfl)))⟩
  ·exact bf (aJ (iA (t rfl) (a6 rfl rfl (zR (by omega)))) rfl) (bf (aJ (rR (f rfl (by decide)) (f rfl (by decide))) rfl) (bf (aJ (f rfl (by decide)) rfl) (bf (aJ (ft (f rfl (by decide))) rfl) (still _))))
 |still=>exact bf (aJ (f rfl (by decide)) rfl) (bf (aJ (ft (f rfl (by decide))) rfl) (bf (aJ (f rfl (by decide)) rfl) (bf (aJ (ft (f rfl (by decide))) rfl) (bf (aJ (rR (f rfl (by decide)) (f rfl (by decide))) rfl) (bf (aJ (f rfl (by decide)) rfl) (bf (aJ (ft (f rfl (by decide))) rfl) (still _)))))))
 |iz=>exact bf (aJ (f rfl (by decide)) rfl) (bf (aJ (ft (f rfl (by decide))) rfl) (bf (aJ (f rfl (by decide)) rfl) (bf (aJ (ft (f rfl (by decide))) rfl) ⟨.iz x y n,⟨hx,hy.1,hy.2,on⟩,c9 (gG (KU (t rfl)) (aN (og rfl rfl rfl rfl rfl)))⟩)))
 |most=>exact bf (aJ (f rfl (by decide)) rfl) (bf (aJ (ft (f rfl (by decide))) rfl) (bf (aJ (f rfl (by decide)) rfl) (bf (aJ (ft (f rfl (by decide))) rfl) ⟨.most x y n,⟨hx,hy.1,hy.2,on⟩,c9 (gG (rR (f rfl (by decide)) (t rfl)) (aN (og rfl rfl rfl rfl rfl)))⟩)))
 |non=>exact bf (aJ (f rfl (by decide)) rfl) (bf (aJ (ft (f rfl (by decide))) rfl) (bf (aJ (f rfl (by decide)) rfl) (bf (aJ (ft (f rfl (by decide))) rfl) (bf (aJ (rR (f rfl (by decide)) (f rfl (by decide))) rfl) ⟨.non x,hx,c9 (gG (t rfl) (aN (bA rfl rfl rfl)))⟩))))
 |anew=>
  refine bf (aJ (f rfl (by decide)) rfl) (bf (aJ (ft (f rfl (by decide))) rfl) (bf (aJ (f rfl (by decide)) rfl) (bf (aJ (ft (f rfl (by decide))) rfl) (bf (aJ (rR (f rfl (by decide)) (f rfl (by decide))) rfl) (bf (aJ (f rfl (by decide)) rfl) ?_)))))
  by_cases c:x=y
  ·exact bf (aJ (iA (t rfl) (ft (a6 rfl rfl (G5 (by omega))))) rfl) (still _)
  ·by_cases c2:0<(kb bs x y).length
   ·obtain⟨q,dq,hq⟩:=gw (ns:=ns) (k:=k+4) (m:=((kb bs x y).length:Int)) (by omega) (by omega) (by omega)
    have hq:q<(kb bs x y).length:=by omega
    have eq:dIx (.lst ((kb bs x y).map intD)) (.int (q:Int))=okI ((kb bs x y)[q]:Nat):=Ew hq;have hm:=Cu.mp (getElem_mem hq);generalize (kb bs x y)[q]=r at eq hm;exact⟨.anew x y r,⟨hx,hy.1,hm.1,c,λz=>hm.2.2.1 z.symm,λz=>hm.2.2.2 z.symm,hy.2,hm.2.1⟩,c9 (gG (iA (t rfl) (iA (a6 rfl rfl (Im (by omega))) (a6 (jO rfl (nX _)) rfl (xp (by omega))))) (cI (aN (og rfl rfl rfl (a6 rfl (aU rfl (a6 rfl rfl rfl) (jO rfl (nX _)) dq) eq) rfl))))⟩
   ·exact bf (aJ (iA (t rfl) (iA (a6 rfl rfl (Im (by omega))) (a6 (jO rfl (nX _)) rfl (xq (by omega))))) rfl) (still _)
def fstB(bs:List Bx)(x:Nat):Nat:=((List.range x).map (szB bs)).sum
def l7(bs:List Bx):Nat:=fstB bs bs.length
theorem qW(bs:List Bx)(x:Nat):fstB bs (x+1)=fstB bs x+szB bs x:=by
 unfold fstB;rw[List.range_succ,map_append,List.sum_append];simp
theorem xx{bs:List Bx}:∀{x y:Nat},x<=y->fstB bs x<=fstB bs y
 |x,0,h=>by rw[Nat.le_zero.mp h];exact le_refl _
 |x,y+1,h=>by
  by_cases e:x=y+1
  ·rw[e];exact le_refl _
  ·rw[qW];have:=xx (bs:=bs) (x:=x) (y:=y) (by omega);omega
theorem IH{bs:List Bx}{x y:Nat}(h:x<y):fstB bs x+szB bs x<=fstB bs y:=by rw[←qW];exact xx h
theorem gX{bs:List Bx}{x:Nat}(h:x<bs.length):fstB bs x+szB bs x<=l7 bs:=IH h
theorem AF{bs:List Bx}(hb:eU bs):∀{x:Nat},x<=bs.length->fstB bs x<=2 * x
 |0,_=>le_refl _
 |x+1,h=>by
  rw[qW];have:=AF hb (x:=x) (by omega)
  rcases dX hb (x:=x) (by omega) with e|e <;> omega
theorem yk{bs:List Bx}(hb:eU bs):l7 bs<=16:=by
 have:=AF hb (le_refl bs.length);have:=hb.1;unfold l7;omega
def aI(bs:List Bx)(x:Nat):List Nat:=(List.range (szB bs x)).map λk=>fstB bs x+k
theorem Fs(l:List Nat):(l.map λn:Nat=>(n:Int)).sum=((l.sum:Nat):Int):=by
 induction l with
 |nil=>rfl
 |cons n l ih=>rw[map_cons,List.sum_cons,List.sum_cons,ih];omega
theorem EZ(l:List Nat):Gw (.lst (l.map intD))=okI ((l.sum:Nat):Int):=by
 have:l.map intD=(l.map λn:Nat=>(n:Int)).map D.int:=by rw[map_map];rfl
 rw[this];show(intsOf _).bind _=_;rw[xl];show okI _=_;rw[Fs]
theorem pW{bs:List Bx}{x:Nat}(h:x<bs.length):iY [cK bs,.int x]=okI (szB bs x:Nat):=aH rfl (aN (um h rfl rfl))
theorem bK{bs:List Bx}(hb:eU bs){x:Nat}(h:x<bs.length):gL [cK bs,.int x]=okL ((aI bs x).map intD):=by
 have h8:=hb.1;have ht:=yk hb;have hf:=gX h;have hc:cR [3] (dg (a5 1)) (aW 3) fo (ak iY [(a5 0),(a5 3)]) [some (.sh (cK bs)),some (.sh (.int x)),none,none]=okL ((List.range x).map λk=>intD (szB bs k)):=
  ji (List.range x) intD _ (by rw[←yC];exact j4 rfl (dy (by omega))) (by rw[length_range];exact le_trans (by omega:x<=8) (by decide)) λk hk=>⟨_,rfl,_,bA rfl rfl (pW (by have:=mem_range.mp hk;omega)),rfl⟩
 have hs:Gw (.lst ((List.range x).map λk=>intD (szB bs k)))=okI (fstB bs x:Nat):=by
  have:((List.range x).map λk=>intD (szB bs k))=((List.range x).map (szB bs)).map intD:=by rw[map_map];rfl
  rw[this,EZ];rfl
 have hr:lO (.int (fstB bs x:Nat)) (.int ((fstB bs x:Nat)+(szB bs x:Nat):Int))=okL ((aI bs x).map intD):=by
  rw[BB (by exact dy (by omega)) (by exact dy (n:=fstB bs x+szB bs x) (by omega)) (le_trans (by omega:_<=16) (by decide))]
  have e:=JE (fstB bs x) (fstB bs x+szB bs x);rw[Nat.add_sub_cancel_left] at e;show okL (rng (fstB bs x:Nat) (((fstB bs x+szB bs x:Nat):Int)))=_;rw[e];unfold aI;rw[map_map];rfl
 exact aH rfl (a9 (ay (bL hc hs)) (aN (a6 rfl (a6 rfl (bA rfl rfl (pW h)) rfl) hr)))
abbrev sI:=List Nat×List Nat
def fR(p:sI):D:=.tup [.tup (p.1.map intD),.tup (p.2.map intD)]
def Kp(bs:List Bx)(x y:Nat):List Nat:=(l8 ((aI bs x++aI bs y).map λn:Nat=>(n:Int))).map Int.toNat
def c4(bs:List Bx):Deed->List sI
 |.put x _=>(aI bs x).map λc=>([],[c])
 |.copy x y=>(List.range (szB bs x)).map λk=>([fstB bs y+k],[fstB bs x+k])
 |.grow x _=>((aI bs x).map λc=>([c],[]))++(aI bs x).map λc=>([],[c])
 |.tick x=>[([fstB bs x],[fstB bs x])]
 |.still n=>replicate n ([],[])
 |.iz x y _=>[(Kp bs x y,[])]
 |.most x y _=>[(Kp bs x y,[])]
 |.non _=>[([],[])]
 |.anew x y t=>(([fstB bs t]++aI bs y++[fstB bs t]).map λc=>([c],[]))++(aI bs x).map λc=>([],[c])
abbrev planS:Str:=Str.ofString "plan"
def planD(bs:List Bx)(dd:Deed):D:=.lst ((c4 bs dd).map fR)
def F8:Deed->String
 |.put _ _ => "Put" | .copy _ _ => "Copy" | .grow _ _ => "Grow" | .tick _ => "Tick" | .still _ => "Still" | .iz _ _ _ => "Comparing" | .most _ _ _ => "Comparing" | .non _ => "Untouched" | .anew _ _ _ => "Anew"
def uX:Deed->List Str
 |.put _ _=>[Str.ofString "numbers"]|.grow _ _=>[Str.ofString "size",Str.ofString "number"]|.anew _ _ _=>[Str.ofString "check"]|_=>[]
def IJ(bs:List Bx):Deed->List D
 |.put _ ns=>[.tup (ns.map D.int)]|.grow x n=>[.int (szB bs x:Nat),.int n]|.anew _ y _=>[.int ((szB bs y:Nat)+1:Int)]|_=>[]
def Ay(bs:List Bx)(dd:Deed):O:=.obj (F8 dd) (planS::uX dd) (planD bs dd::IJ bs dd)
abbrev DC:List String:=["Deed","Promise","Comparing","Untouched","Still","Put","Copy","Tick","Handed","Grow","Anew"]
theorem F7(dd:Deed):DC.contains (F8 dd)=true:=by cases dd <;> rfl
theorem kh{c:String}(hc:DC.contains c=true)(p:D):gg (.obj c [] []) [p]=some (.obj c [planS] [p]):=kW rfl (mv (pZ rfl hc rfl (by decide)) rfl)
theorem IV{A:List Nat}(hA:A.length<=100){ρ:MEnv}{js:List Nat}{it:MI}{v:Nat}(hi:it ρ=some (.ok (A.map intD)))(hv:v<(bI js ρ).length):cR js it (aW v) fo (aD [(aD [(a5 v)]),(aD [])]) ρ=okL ((A.map λc=>(([c],[]):sI)).map fR):=by
 rw[map_map];exact ji A intD _ hi (le_trans hA (by decide)) λb _=>⟨_,rfl,_,l6 (bL (bq (getElem?_set_self hv)) rfl) rfl,rfl⟩
theorem F2{A:List Nat}(hA:A.length<=100){ρ:MEnv}{js:List Nat}{it:MI}{v:Nat}(hi:it ρ=some (.ok (A.map intD)))(hv:v<(bI js ρ).length):cR js it (aW v) fo (aD [(aD []),(aD [(a5 v)])]) ρ=okL ((A.map λc=>(([],[c]):sI)).map fR):=by
 rw[map_map];exact ji A intD _ hi (le_trans hA (by decide)) λb _=>⟨_,rfl,_,l6 rfl (bL (bq (getElem?_set_self hv)) rfl),rfl⟩
theorem qT{c:String}(hc:DC.contains c=true){A B:List Nat}(hA:A.length<=100)(hB:B.length<=100):ke (.obj c [] []) [.lst (A.map intD),.lst (B.map intD)]=some (.obj c [planS] [.lst (((A.map λc=>(([c],[]):sI))++B.map λc=>(([],[c]):sI)).map fR)]):=by
 refine kW rfl (mv (oh (s1:=.own (.lst (((A.map λc=>(([c],[]):sI))++B.map λc=>(([],[c]):sI)).map fR))) (a6 (IV hA (ig rfl rfl) (by show 3<4;decide)) (F2 hB (ig rfl rfl) (by show 3<4;decide)) ?_) (kh hc _)) rfl)
 show aK (.lst _) (.lst _)=_;rw[tW (by rw[length_map,length_map,length_map,length_map];omega),map_append]
theorem lG{c:String}(hc:DC.contains c=true){A:List Nat}:iX (.obj c [] []) [.lst (A.map intD)]=some (.obj c [planS] [.lst ([((A,[]):sI)].map fR)]):=
 kW rfl (mv (oh (bL (l6 (bL rfl rfl) rfl) rfl) (kh hc _)) rfl)
theorem insD_mem{k m:Int}:∀{l:List Int},m∈oG k l->m=k\/m∈l
 |[],h=>by simp[oG] at h;exact .inl h
 |x::r,h=>by
  unfold oG at h;split at h
  ·rcases mem_cons.mp h with h|h
   ·exact .inl h
   ·exact .inr h
  ·split at h
   ·exact .inr h
   ·rcases mem_cons.mp h with h|h
    ·exact .inr (by rw[h];exact mem_cons_self)
    ·rcases insD_mem h with h|h
     ·exact .inl h
     ·exact .inr (mem_cons_of_mem _ h)
theorem sortD_mem{m:Int}:∀{l:List Int},m∈l8 l->m∈l
 |[],h=>h
 |x::r,h=>by
  rcases insD_mem (show m∈oG x (l8 r) from h) with h|h
  ·rw[h];exact mem_cons_self
  ·exact mem_cons_of_mem _ (sortD_mem h)
theorem xW{bs:List Bx}{x c:Nat}(h:x<bs.length)(hc:c∈aI bs x):c<l7 bs:=by
 unfold aI at hc;obtain⟨k,hk,rfl⟩:=mem_map.mp hc;have:=mem_range.mp hk;have:=gX h;omega
theorem ba(bs:List Bx)(x:Nat):(aI bs x).length=szB bs x:=by unfold aI;rw[length_map,length_range]
theorem Ak{bs:List Bx}(hb:eU bs){x y:Nat}(hx:x<bs.length)(hy:y<bs.length):r9 (.lst ((aI bs x).map intD++(aI bs y).map intD))=okL ((Kp bs x y).map intD):=by
 have e:(aI bs x).map intD++(aI bs y).map intD=((aI bs x++aI bs y).map λn:Nat=>(n:Int)).map D.int:=by
  rw[←map_append,map_map];rfl
 rw[e];show(intsOf _).bind _=_;rw[xl];show(if fewD _=true then _ else none)=_;have few:fewD ((aI bs x++aI bs y).map λn:Nat=>(n:Int))=true:=by
  unfold fewD;rw[Bool.and_eq_true];constructor
  ·have h1:=dX hb hx;have h2:=dX hb hy;rw[decide_eq_true_iff,length_map,length_append,ba,ba];omega
  ·rw[all_eq_true];intro n hn;obtain⟨c,hc,rfl⟩:=mem_map.mp hn;have ht:=yk hb;have:c<l7 bs:=by
    rcases mem_append.mp hc with h|h
    ·exact xW hx h
    ·exact xW hy h
   simp;omega
 rw[if_pos few];unfold Kp;rw[map_map];refine congrArg okL (map_congr_left λn hn=>?_);obtain⟨c,hc,rfl⟩:=mem_map.mp (sortD_mem hn);rfl
theorem xU{bs:List Bx}(hb:eU bs){x:Nat}(h:x<bs.length):(aI bs x).length<=2:=by rw[ba];rcases dX hb h with e|e <;> omega
theorem Fb{bs:List Bx}(hb:eU bs){x:Nat}(h:x<bs.length):(aI bs x)[0]?=some (fstB bs x):=by
 unfold aI;rw[getElem?_map,getElem?_range (by rcases dX hb h with e|e <;> omega)]
 rfl
theorem oN{bs:List Bx}{x k:Nat}(h:k<szB bs x):(aI bs x)[k]?=some (fstB bs x+k):=by
 unfold aI;rw[getElem?_map,getElem?_range h];rfl
theorem xj{bs:List Bx}{x k:Nat}(h:k<szB bs x):dIx (.lst ((aI bs x).map intD)) (.int k)=okI (fstB bs x+k:Nat):=cB (by rw[getElem?_map,oN h];rfl)
theorem zY{bs:List Bx}(hb:eU bs){dd:Deed}(ok:dd.Ok bs):mq [cK bs,dd.d]=some (.ok (.own (Ay bs dd))):=by
 cases dd with
 |still n=>
  have hn:n<=9:=ok.2;refine aH rfl (a9 (ay (a6 rfl rfl bU)) (c9 (gG (a6 rfl rfl (iT rfl)) (aN (GW (a6 rfl rfl cg) (kW rfl (mv (oh (JF (ds:=[fR ([],[])]) (k:=(n:Int)) rfl rfl ⟨by omega,by omega,?_⟩) (kh rfl _)) ?_)))))))
  ·rw[toNat_natCast,length_singleton];exact le_trans (by omega:1 * n<=9) (by decide)
  ·show some (O.obj "Still" [planS] [.lst (replicate (n:Int).toNat [fR ([],[])]).flatten])=some (O.obj "Still" [planS] [.lst ((replicate n (([],[]):sI)).map fR)]);rw[toNat_natCast,List.map_replicate];congr 5
   induction n with
   |zero=>rfl
   |succ n ih=>rw[replicate_succ,replicate_succ,flatten_cons];exact congrArg _ (by
     clear ih ok hn
     induction n with
     |zero=>rfl
     |succ n ih=>rw[replicate_succ,replicate_succ,flatten_cons,ih];rfl)
 |non x=>
  exact aH rfl (a9 (ay (a6 rfl rfl bU)) (a9 (aJ (a6 rfl rfl (aM (by decide))) rfl) (c9 (gG (a6 rfl rfl (iT rfl)) (aN (K1 (kW rfl (mv (oh rfl (lG (A:=[]) rfl)) rfl))))))))
 |put x ns=>
  have hx:x<bs.length:=ok.1;have hc:=bK hb hx;have h2:=xU hb hx;exact aH rfl (a9 (ay (a6 rfl rfl bU)) (a9 (aJ (a6 rfl rfl (aM (by decide))) rfl) (a9 (aJ (a6 rfl rfl (aM (by decide))) rfl) (a9 (ay (bA rfl (a6 rfl rfl cg) hc)) (c9 (gG (a6 rfl rfl (iT rfl)) (cI (aN (x3 rfl (a6 rfl rfl je)
   (kW rfl (mv (oh (F2 (by omega) (ig rfl rfl) (by show 3<4;decide)) (kh rfl _)) (mv (pZ (bL rfl rfl) rfl rfl (by decide)) rfl))))))))))))
 |grow x n=>
  have hx:x<bs.length:=ok.1;have hc:=bK hb hx;have h2:=xU hb hx;have hl:cC (.lst ((aI bs x).map intD))=okI (szB bs x:Nat):=by rw[nZ,length_map,ba]
  exact aH rfl (a9 (ay (a6 rfl rfl bU)) (a9 (aJ (a6 rfl rfl (aM (by decide))) rfl) (a9 (aJ (a6 rfl rfl (aM (by decide))) rfl) (a9 (ay (bA rfl (a6 rfl rfl cg) hc)) (a9 (aJ (a6 rfl rfl (aM (by decide))) rfl) (c9 (gG (a6 rfl rfl (iT rfl)) (cI (aN (x3 rfl (a6 rfl rfl je)
   (kW rfl (mv (Hf rfl rfl (qT rfl (by omega) (by omega))) (mv (pZ (jO rfl hl) rfl rfl (by decide)) (mv (pZ rfl rfl rfl (by decide)) rfl))))))))))))))
 |tick x=>
  have hx:x<bs.length:=ok.1;have hc:=bK hb hx;have h1:dIx (.lst ((aI bs x).map intD)) (.int 0)=okI (fstB bs x:Nat):=cB (n:=0) (by rw[getElem?_map,Fb hb hx];rfl)
  exact aH rfl (a9 (ay (a6 rfl rfl bU)) (a9 (aJ (a6 rfl rfl (aM (by decide))) rfl) (a9 (aJ (a6 rfl rfl (aM (by decide))) rfl) (a9 (ay (bA rfl (a6 rfl rfl cg) hc)) (a9 (aJ (a6 rfl rfl (aM (by decide))) rfl) (a9 (aJ (a6 rfl rfl (aM (by decide))) rfl) (c9 (gG (a6 rfl rfl (iT rfl)) (cI (aN (GW (a6 rfl rfl h1)
   (kW rfl (mv (oh (bL (l6 (bL rfl rfl) (bL rfl rfl)) rfl) (kh rfl _)) rfl)))))))))))))
 |copy x y=>
  have hx:x<bs.length:=ok.1;have hy:y<bs.length:=ok.2.1;have hxy:szB bs y=szB bs x:=ok.2.2.2;have hc:=bK hb hx;have hd:=bK hb hy;have h12:=dX hb hx;have hl:cC (.lst ((aI bs x).map intD))=okI (szB bs x:Nat):=by rw[nZ,length_map,ba]
  have hcomp:cR [3] (dg (aY (f1 cC) [(il 1)])) (aW 3) fo (aD [(aD [(a8 dIx (a5 2) (a5 3))]),(aD [(a8 dIx (a5 1) (a5 3))])]) [none,some (.sh (.lst ((aI bs x).map intD))),some (.sh (.lst ((aI bs y).map intD))),none]=okL (((List.range (szB bs x)).map λk=>(([fstB bs y+k],[fstB bs x+k]):sI)).map fR):=by
   rw[map_map];refine ji (List.range (szB bs x)) intD _ (by rw[←yC];exact j4 (jO rfl hl) (dy (by omega))) (by rw[length_range];exact le_trans (by omega:szB bs x<=2) (by decide)) λk hk=>⟨_,rfl,_,l6 (bL (a6 rfl rfl (xj (by have:=mem_range.mp hk;omega))) rfl) (bL (a6 rfl rfl (xj (mem_range.mp hk))) rfl),rfl⟩
  exact aH rfl (a9 (ay (a6 rfl rfl bU)) (a9 (aJ (a6 rfl rfl (aM (by decide))) rfl) (a9 (aJ (a6 rfl rfl (aM (by decide))) rfl) (a9 (ay (bA rfl (a6 rfl rfl cg) hc)) (a9 (aJ (a6 rfl rfl (aM (by decide))) rfl) (a9 (aJ (a6 rfl rfl (aM (by decide))) rfl) (a9 (aJ (a6 rfl rfl (aM (by decide))) rfl) (a9 (ay (bA rfl (a6 rfl rfl je) hd)) (c9 (gG (a6 rfl rfl (iT rfl)) (cI (cI (aN (x3 rfl rfl
   (kW rfl (mv (oh hcomp (kh rfl _)) rfl))))))))))))))))
 |anew x y t=>
  obtain⟨hx,hy,ht,nxy,nxt,nyt,hxy,ht1⟩:=ok;have hc:=bK hb hx;have hd:=bK hb hy;have he:=bK hb ht;have h2:=xU hb hx;have h3:=xU hb hy;have h1:dIx (.lst ((aI bs t).map intD)) (.int 0)=okI (fstB bs t:Nat):=cB (n:=0) (by rw[getElem?_map,Fb hb ht];rfl)
  have hl:cC (.lst ((aI bs y).map intD))=okI (szB bs y:Nat):=by rw[nZ,length_map,ba]
  have e1:aK (.lst [.int (fstB bs t:Nat)]) (.lst ((aI bs y).map intD))=okL (([fstB bs t]++aI bs y).map intD):=by
   rw[tW (by rw[length_map,length_singleton];omega),map_append];rfl
  have e2:aK (.lst (([fstB bs t]++aI bs y).map intD)) (.lst [.int (fstB bs t:Nat)])=okL (([fstB bs t]++aI bs y++[fstB bs t]).map intD):=by
   rw[tW (by rw[length_map,length_append,length_singleton,length_singleton];omega),map_append (l₁:=[fstB bs t]++aI bs y)];rfl
  exact aH rfl (a9 (ay (a6 rfl rfl bU)) (a9 (aJ (a6 rfl rfl (aM (by decide))) rfl) (a9 (aJ (a6 rfl rfl (aM (by decide))) rfl) (a9 (ay (bA rfl (a6 rfl rfl cg) hc)) (a9 (aJ (a6 rfl rfl (aM (by decide))) rfl) (a9 (aJ (a6 rfl rfl (aM (by decide))) rfl) (a9 (aJ (a6 rfl rfl (aM (by decide))) rfl) (a9 (ay (bA rfl (a6 rfl rfl je) hd)) (a9 (aJ (a6 rfl rfl (aM (by decide))) rfl) (c9 (gG (a6 rfl rfl (iT rfl)) (cI (cI (aN (K0 rfl rfl (a6 (bA rfl (a6 rfl rfl GY) he) rfl h1)
   (kW rfl (mv (Hf (a6 (a6 (bL rfl rfl) rfl e1) (bL rfl rfl) e2) rfl (qT rfl (by rw[length_append,length_append,length_singleton];omega) (by omega))) (mv (pZ (a6 (jO rfl hl) rfl rfl) rfl rfl (by decide)) rfl))))))))))))))))))
 |iz x y n=>
  obtain⟨hx,hy,hxy,_⟩:=ok;have hc:=bK hb hx;have hd:=bK hb hy;have h2:=xU hb hx;have h3:=xU hb hy;exact aH rfl (a9 (ay (a6 rfl rfl bU)) (a9 (aJ (a6 rfl rfl (aM (by decide))) rfl) (a9 (aJ (a6 rfl rfl (aM (by decide))) rfl) (a9 (ay (bA rfl (a6 rfl rfl cg) hc)) (a9 (aJ (a6 rfl rfl (aM (by decide))) rfl) (a9 (aJ (a6 rfl rfl (aM (by decide))) rfl) (a9 (aJ (a6 rfl rfl (aM (by decide))) rfl) (a9 (ay (bA rfl (a6 rfl rfl je) hd)) (a9 (aJ (a6 rfl rfl (aM (by decide))) rfl) (a9 (aJ (a6 rfl rfl (aM (by decide))) rfl) (cI (cI (aN (x3 rfl rfl
   (kW rfl (mv (oh (ud (a6 rfl rfl (tW (by rw[length_map,length_map];omega))) (Ak hb hx hy)) (lG rfl)) rfl))))))))))))))))
 |most x y n=>
  obtain⟨hx,hy,hxy,_⟩:=ok;have hc:=bK hb hx;have hd:=bK hb hy;have h2:=xU hb hx;have h3:=xU hb hy;exact aH rfl (a9 (ay (a6 rfl rfl bU)) (a9 (aJ (a6 rfl rfl (aM (by decide))) rfl) (a9 (aJ (a6 rfl rfl (aM (by decide))) rfl) (a9 (ay (bA rfl (a6 rfl rfl cg) hc)) (a9 (aJ (a6 rfl rfl (aM (by decide))) rfl) (a9 (aJ (a6 rfl rfl (aM (by decide))) rfl) (a9 (aJ (a6 rfl rfl (aM (by decide))) rfl) (a9 (ay (bA rfl (a6 rfl rfl je) hd)) (a9 (aJ (a6 rfl rfl (aM (by decide))) rfl) (a9 (aJ (a6 rfl rfl (aM (by decide))) rfl) (cI (cI (aN (x3 rfl rfl
   (kW rfl (mv (oh (ud (a6 rfl rfl (tW (by rw[length_map,length_map];omega))) (Ak hb hx hy)) (lG rfl)) rfl))))))))))))))))
theorem IK(f:Str)(ns:List Str)(d:D)(ds:List D):vy f (f::ns) (d::ds)=some d:=by
 unfold vy;rw[if_pos (by simp)]
theorem Fz{c:String}(hc:DC.contains c=true){ns:List Str}{pl:List sI}{ds:List D}{k:Nat}{p:sI}(h:pl[k]?=some p):dG [.obj c (planS::ns) (.lst (pl.map fR)::ds),.int k]=okL (p.1.map intD):=
 aH rfl (aN (bL (a6 (a6 (ix rfl rfl hc (IK planS ns _ ds)) rfl (cB (by rw[getElem?_map,h];rfl))) rfl bU) rfl))
theorem Dc{c:String}(hc:DC.contains c=true){ns:List Str}{pl:List sI}{ds:List D}{k:Nat}{p:sI}(h:pl[k]?=some p):cE [.obj c (planS::ns) (.lst (pl.map fR)::ds),.int k]=okL (p.2.map intD):=
 aH rfl (aN (bL (a6 (a6 (ix rfl rfl hc (IK planS ns _ ds)) rfl (cB (by rw[getElem?_map,h];rfl))) rfl cg) rfl))
theorem Af{c:String}(hc:DC.contains c=true){ns:List Str}{pl:List sI}{ds:List D}:fb [.obj c (planS::ns) (.lst (pl.map fR)::ds)]=okI (pl.length:Nat):=
 aH rfl (aN (jO (ix rfl rfl hc (IK planS ns _ ds)) (by show okI ((pl.map fR).length:Int)=_;rw[length_map])))
theorem yl{c:String}(hc:DC.contains c=true):fQ c=some dG:=by unfold fQ vQ;rw[if_pos hc]
theorem vV{c:String}(hc:DC.contains c=true):dn c=some cE:=by unfold dn vQ;rw[if_pos hc]
theorem pS{c:String}(hc:DC.contains c=true):hJ c=some fb:=by unfold hJ vQ;rw[if_pos hc]
theorem iO{vs:List Int}{c:Nat}(h:c<vs.length):dIx (.tup (vs.map D.int)) (.int c)=okI (vs.getD c 0):=ix_tup (by rw[getElem?_map,getElem?_eq_getElem h,getD_eq_getElem?_getD,getElem?_eq_getElem h];rfl)
theorem iZ{vs:List Int}{c:Nat}{v:Int}(h:c<vs.length)(hl:vs.length<=1000):dU [.tup (vs.map D.int),.int c,.int v]=okD (.tup ((vs.set c v).map D.int)):=by
 have e1:bx (a5 0) none (some (a5 1)) [some (.sh (.tup (vs.map D.int))),some (.sh (.int c)),some (.sh (.int v))]=okD (.tup ((vs.map D.int).take c)):=Bm rfl rfl rfl (by rw[length_map];exact h)
 have e2:bx (a5 0) (some (a8 aK (a5 1) (eC (.int 1)))) none [some (.sh (.tup (vs.map D.int))),some (.sh (.int c)),some (.sh (.int v))]=okD (.tup ((vs.map D.int).drop (c+1))):=oV rfl rfl (a6 rfl rfl rfl) (by omega) (by rw[length_map];omega)
 have e3:(vs.set c v).map D.int=(vs.map D.int).take c++[D.int v]++(vs.map D.int).drop (c+1):=by
  rw[List.set_eq_take_append_cons_drop,if_pos h,map_append,map_cons,List.map_take,List.map_drop];simp
 rw[e3];exact aH rfl (aN (a6 (a6 e1 (bL rfl rfl) (xX (by rw[length_take,length_map,length_singleton];omega))) e2 (xX (by rw[length_append,length_take,length_drop,length_map,length_singleton];omega))))
def bJ(bs:List Bx)(dd:Deed)(turn:Nat)(vs hand:List Int):List Int×List Int×Nat:=match dd with
 |.put x ns=>(vs.set (fstB bs x+turn) (ns.getD turn 0),hand,turn+1)
 |.copy x y=>(vs.set (fstB bs x+turn) (vs.getD (fstB bs y+turn) 0),hand,turn+1)
 |.tick x=>(vs.set (fstB bs x) (vs.getD (fstB bs x) 0+1),hand,turn+1)
 |.grow x n=>if turn<szB bs x then(vs,hand++[vs.getD (fstB bs x+turn) 0],turn+1)
  else(vs.set (fstB bs x+(turn - szB bs x)) (hand.getD (turn - szB bs x) 0+n),if turn+1=2 * szB bs x then[] else hand,turn+1)
 |.anew x y t=>if turn<szB bs y+1 then(vs,hand++[vs.getD (if turn=0 then fstB bs t else fstB bs y+(turn - 1)) 0],turn+1)
  else if szB bs y+1<turn then(vs.set (fstB bs x+(turn - (szB bs y+2))) (hand.getD (turn - (szB bs y+1)) 0),if turn+1=2 * szB bs y+2 then[] else hand,turn+1)
  else if vs.getD (fstB bs t) 0=hand.getD 0 0 then(vs,hand,turn+1) else(vs,[],0)
 |_=>(vs,hand,turn+1)
def Dx(r:List Int×List Int×Nat):D:=.tup [.tup (r.1.map D.int),.tup (r.2.1.map D.int),.int (r.2.2:Nat)]
def Aa(bs:List Bx)(dd:Deed)(turn:Nat)(hand:List Int):Prop:=match dd with
 |.grow x _=>szB bs x<=turn->turn - szB bs x<hand.length
 |.anew _ y _=>szB bs y+1<=turn->turn - (szB bs y+1)<hand.length
 |_=>True
theorem oR(n:Nat):aK (.int n) (.int 1)=okI ((n+1:Nat):Int):=rfl
theorem DH{bs:List Bx}{x k:Nat}{ns:List Int}(h:k<szB bs x):(c4 bs (.put x ns))[k]?=some ([],[fstB bs x+k]):=by
 show((aI bs x).map _)[k]?=_;rw[getElem?_map,oN h];rfl
theorem sZ{bs:List Bx}{x y k:Nat}(h:k<szB bs x):(c4 bs (.copy x y))[k]?=some ([fstB bs y+k],[fstB bs x+k]):=by
 show((List.range (szB bs x)).map _)[k]?=_;rw[getElem?_map,getElem?_range h];rfl
theorem yL{bs:List Bx}{x k:Nat}{n:Int}(h:k<szB bs x):(c4 bs (.grow x n))[k]?=some ([fstB bs x+k],[]):=by
 show(((aI bs x).map _)++_)[k]?=_;rw[getElem?_append_left (by rw[length_map,ba];exact h),getElem?_map,oN h];rfl
theorem yK{bs:List Bx}{x k:Nat}{n:Int}(h0:szB bs x<=k)(h:k<2 * szB bs x):(c4 bs (.grow x n))[k]?=some ([],[fstB bs x+(k - szB bs x)]):=by
 show(((aI bs x).map _)++_)[k]?=_;rw[getElem?_append_right (by rw[length_map,ba];exact h0),length_map,ba,getElem?_map,oN (by omega)];rfl
theorem hU{bs:List Bx}:∀{dd:Deed},(c4 bs dd).length=match dd with|.put x _=>szB bs x|.copy x _=>szB bs x|.grow x _=>2 * szB bs x|.tick _=>1|.still n=>n|.iz _ _ _=>1|.most _ _ _=>1|.non _=>1|.anew x y _=>szB bs y+2+szB bs x
 |.put x _=>by show((aI bs x).map _).length=_;rw[length_map,ba]
 |.copy x _=>by show((List.range (szB bs x)).map _).length=_;rw[length_map,length_range]
 |.grow x _=>by show(((aI bs x).map _)++_).length=_;rw[length_append,length_map,length_map,ba];show _=2 * szB bs x;omega
 |.tick _=>rfl
 |.still n=>by show(replicate n _).length=_;rw[length_replicate]
 |.iz _ _ _=>rfl
 |.most _ _ _=>rfl
 |.non _=>rfl
 |.anew x y t=>by show((([fstB bs t]++aI bs y++[fstB bs t]).map _)++(aI bs x).map _).length=_;rw[length_append,length_map,length_map,length_append,length_append,ba,ba];show _=szB bs y+2+szB bs x;simp;omega
theorem qo{bs:List Bx}{x y t k:Nat}(h:k=0\/k=szB bs y+1):(c4 bs (.anew x y t))[k]?=some ([fstB bs t],[]):=by
 show((([fstB bs t]++aI bs y++[fstB bs t]).map _)++_)[k]?=_;rw[getElem?_append_left (by rw[length_map,length_append,length_append,ba];simp;omega),getElem?_map]
 rcases h with rfl|rfl
 ·rfl
 ·rw[getElem?_append_right (by rw[length_append,ba];simp;omega),length_append,ba]
  show(([fstB bs t][szB bs y+1 - (1+szB bs y)]?).map _)=_;rw[show szB bs y+1 - (1+szB bs y)=0 by omega];rfl
theorem yN{bs:List Bx}{x y t k:Nat}(h:k<szB bs y):(c4 bs (.anew x y t))[k+1]?=some ([fstB bs y+k],[]):=by
 show((([fstB bs t]++aI bs y++[fstB bs t]).map _)++_)[k+1]?=_;rw[getElem?_append_left (by rw[length_map,length_append,length_append,ba];simp;omega),getElem?_map,getElem?_append_left (by rw[length_append,ba];simp;omega)]
 show(((aI bs y)[k]?).map _)=_;rw[oN h];rfl
theorem yM{bs:List Bx}{x y t k:Nat}(h:k<szB bs x):(c4 bs (.anew x y t))[szB bs y+2+k]?=some ([],[fstB bs x+k]):=by
 show((([fstB bs t]++aI bs y++[fstB bs t]).map _)++_)[szB bs y+2+k]?=_;have hl:((([fstB bs t]++aI bs y++[fstB bs t]).map λc=>(([c],[]):sI))).length=szB bs y+2:=by rw[length_map,length_append,length_append,ba];simp;omega
 rw[getElem?_append_right (by rw[hl];omega),hl,getElem?_map,show szB bs y+2+k - (szB bs y+2)=k by omega,oN h];rfl
section
variable{bs:List Bx}{vs hand:List Int}{turn:Nat}
theorem Hz{c:String}(hc:DC.contains c=true){ns:List Str}{pl:List sI}{ds:List D}{a:Nat}{q:List Nat}(h:pl[turn]?=some ([a],q)){ρ:MEnv}{i j:Nat}(hi:ρ[i]?=some (some (.sh (.obj c (planS::ns) (.lst (pl.map fR)::ds)))))(hn:(planS::ns).contains (Str.ofString "reads")=false)(hj:ρ[j]?=some (some (.sh (.int turn)))):
  a8 dIx (dC (Str.ofString "reads") fQ (a5 i) [(a5 j)]) (eC (.int 0)) ρ=okI (a:Nat):=
 a6 (GU (bq hi) rfl hn (yl hc) (bq hj) (Fz hc h)) rfl qS
theorem Dg{c:String}(hc:DC.contains c=true){ns:List Str}{pl:List sI}{ds:List D}{a:Nat}{q:List Nat}(h:pl[turn]?=some (q,[a])){ρ:MEnv}{i j:Nat}(hi:ρ[i]?=some (some (.sh (.obj c (planS::ns) (.lst (pl.map fR)::ds)))))(hn:(planS::ns).contains (Str.ofString "writes")=false)(hj:ρ[j]?=some (some (.sh (.int turn)))):
  a8 dIx (dC (Str.ofString "writes") dn (a5 i) [(a5 j)]) (eC (.int 0)) ρ=okI (a:Nat):=
 a6 (GU (bq hi) rfl hn (vV hc) (bq hj) (Dc hc h)) rfl qS
theorem jC{c:String}{ns:List Str}{ds:List D}:dH [.obj c ns ds,.int turn,.tup (vs.map D.int),.tup (hand.map D.int)]=okD (Dx (vs,hand,turn+1)):=
 aH rfl (aN (aU rfl rfl (a6 rfl rfl (oR turn)) rfl))
theorem El{c:String}(hc:DC.contains c=true){ns:List Str}{pl:List sI}{ds:List D}{a:Nat}{q:List Nat}(h:pl[turn]?=some ([a],q))(hn:(planS::ns).contains (Str.ofString "reads")=false)(ha:a<vs.length)(hh:hand.length<=1000):
  dW [.obj c (planS::ns) (.lst (pl.map fR)::ds),.int turn,.tup (vs.map D.int),.tup (hand.map D.int)]=okD (Dx (vs,hand++[vs.getD a 0],turn+1)):=by
 have e:aK (.tup (hand.map D.int)) (.tup [.int (vs.getD a 0)])=okD (.tup ((hand++[vs.getD a 0]).map D.int)):=by
  rw[xX (by rw[length_map,length_singleton];omega),map_append];rfl
 exact aH rfl (aN (aU rfl (a6 rfl (bL (a6 rfl (Hz hc h rfl hn rfl) (iO ha)) rfl) e) (a6 rfl rfl (oR turn)) rfl))
theorem pY{c:String}(hc:DC.contains c=true){ns:List Str}{pl:List sI}{ds:List D}{a:Nat}{q:List Nat}{v:Int}(h:pl[turn]?=some (q,[a]))(hn:(planS::ns).contains (Str.ofString "writes")=false)(hn':(planS::ns).contains (Str.ofString "turns")=false)(ha:a<vs.length)(hv:vs.length<=1000):
  cj [.obj c (planS::ns) (.lst (pl.map fR)::ds),.int turn,.tup (vs.map D.int),.tup (hand.map D.int),.int v]=okD (Dx (vs.set a v,if turn+1=pl.length then[] else hand,turn+1)):=by
 have ht:∀ρ:MEnv,ρ[0]?=some (some (.sh (.obj c (planS::ns) (.lst (pl.map fR)::ds))))->dC (Str.ofString "turns") hJ (a5 0) [] ρ=okI (pl.length:Nat):=λρ h0=>GV (bq h0) rfl hn' (pS hc) (Af hc);by_cases e:turn+1=pl.length
 ·rw[if_pos e];exact aH rfl (a9 (ay (a6 rfl rfl (oR turn))) (a9 (ay (EB (a6 rfl (ht _ rfl) (zQ (by omega))) rfl)) (aN (aU (aU rfl (Dg hc h rfl hn rfl) rfl (iZ ha hv)) rfl rfl rfl))))
 ·rw[if_neg e];exact aH rfl (a9 (ay (a6 rfl rfl (oR turn))) (a9 (ay (EC (a6 rfl (ht _ rfl) (zR (by omega))) rfl)) (aN (aU (aU rfl (Dg hc h rfl hn rfl) rfl (iZ ha hv)) rfl rfl rfl))))
theorem sM{c:String}(hc:["Handed","Grow","Anew"].contains c=true):lX c=some dW:=by unfold lX vQ;rw[if_pos hc]
theorem sN{c:String}(hc:["Handed","Grow","Anew"].contains c=true):fE c=some cj:=by unfold fE vQ;rw[if_pos hc]
theorem GF(hb:eU bs){dd:Deed}(ok:dd.Ok bs)(ht:turn<(c4 bs dd).length)(hv:vs.length=l7 bs)(hh:hand.length<=1000)(ho:Aa bs dd turn hand):
  ∃F,eD (F8 dd)=some F/\F [(Ay bs dd).val,.int turn,.tup (vs.map D.int),.tup (hand.map D.int)]=okD (Dx (bJ bs dd turn vs hand)):=by
 have hT:=yk hb;rw[hU] at ht;cases dd with
 |still n=>exact⟨_,pT,jC⟩
 |non x=>exact⟨_,mJ,jC⟩
 |iz x y n=>exact⟨_,j2,jC⟩
 |most x y n=>exact⟨_,j2,jC⟩
 |put x ns=>
  have hf:=gX ok.1;have hn:dIx (.tup (ns.map D.int)) (.int turn)=okI (ns.getD turn 0):=iO (by rw[ok.2.1];exact ht)
  exact⟨_,ue,aH rfl (aN (aU (aU rfl (Dg rfl (DH ht) rfl rfl rfl) (a6 (ix (d:=.tup (ns.map D.int)) rfl rfl rfl rfl) rfl hn) (iZ (by show fstB bs x+turn<_;dsimp only at ht;omega) (by omega))) rfl (a6 rfl rfl (oR turn)) rfl))⟩
 |copy x y=>
  have hf:=gX ok.1;have hg:=gX ok.2.1;have hxy:=ok.2.2.2;dsimp only at ht;exact⟨_,rG,aH rfl (a9 (ay (a6 rfl (Hz rfl (sZ ht) rfl rfl rfl) (iO (c:=fstB bs y+turn) (by omega)))) (aN (aU (aU rfl (Dg rfl (sZ ht) rfl rfl rfl) rfl (iZ (by omega) (by omega))) rfl (a6 rfl rfl (oR turn)) rfl)))⟩
 |tick x=>
  have hf:=gX ok.1;have h1:szB bs x=1:=ok.2;dsimp only at ht;obtain rfl:turn=0:=by omega
  exact⟨_,rF,aH rfl (a9 (ay (Dg (turn:=0) (pl:=c4 bs (.tick x)) rfl rfl rfl rfl rfl)) (aN (aU (aU rfl rfl (a6 (a6 rfl rfl (iO (c:=fstB bs x) (by omega))) rfl rfl) (iZ (by omega) (by omega))) rfl (a6 rfl rfl (oR 0)) rfl)))⟩
 |grow x n=>
  have hf:=gX ok.1;dsimp only at ht;have hl:(c4 bs (.grow x n)).length=2 * szB bs x:=hU;by_cases c:turn<szB bs x
  ·refine⟨_,my,?_⟩;rw[show bJ bs (.grow x n) turn vs hand=(vs,hand++[vs.getD (fstB bs x+turn) 0],turn+1) from if_pos c];exact aH rfl (c9 (gG (a6 rfl (ix (d:=.int (szB bs x:Nat)) rfl rfl rfl rfl) (G8 (by omega))) (aN (Ee rfl rfl rfl (sM rfl) rfl rfl rfl (El rfl (yL c) rfl (by omega) hh)))))
  ·refine⟨_,my,?_⟩;rw[show bJ bs (.grow x n) turn vs hand=(vs.set (fstB bs x+(turn - szB bs x)) (hand.getD (turn - szB bs x) 0+n),if turn+1=2 * szB bs x then[] else hand,turn+1) from if_neg c];have hs:kZ (.int turn) (.int (szB bs x:Nat))=okI ((turn - szB bs x:Nat):Int):=by rw[sub_int];congr 4;omega
   have hp:=pY (vs:=vs) (hand:=hand) (c := "Grow") (ns:=[Str.ofString "size",Str.ofString "number"]) (ds:=[.int (szB bs x:Nat),.int n]) (v:=hand.getD (turn - szB bs x) 0+n) rfl (yK (n:=n) (by omega) ht) rfl rfl (by omega) (by omega)
   rw[hl] at hp;exact aH rfl (a9 (aJ (a6 rfl (ix (d:=.int (szB bs x:Nat)) rfl rfl rfl rfl) (xh (by omega))) rfl) (aN (GT rfl rfl rfl (sN rfl) rfl rfl rfl (a6 (a6 rfl (a6 rfl (ix (d:=.int (szB bs x:Nat)) rfl rfl rfl rfl) hs) (iO (ho (by omega)))) (ix (d:=.int n) rfl rfl rfl rfl) rfl) hp)))
 |anew x y t=>
  obtain⟨hx,hy,htt,nxy,nxt,nyt,hxy,ht1⟩:=ok;have hfx:=gX hx;have hfy:=gX hy;have hft:=gX htt;dsimp only at ht;have hl:(c4 bs (.anew x y t)).length=szB bs y+2+szB bs x:=hU;have hck:((szB bs y:Nat):Int)+1=((szB bs y+1:Nat):Int):=rfl;refine⟨_,rH,?_⟩;by_cases c:turn<szB bs y+1
  ·rw[show bJ bs (.anew x y t) turn vs hand=(vs,hand++[vs.getD (if turn=0 then fstB bs t else fstB bs y+(turn - 1)) 0],turn+1) from if_pos c];have hp:(c4 bs (.anew x y t))[turn]?=some ([if turn=0 then fstB bs t else fstB bs y+(turn - 1)],[]):=by
    by_cases z:turn=0
    ·rw[if_pos z];exact qo (.inl z)
    ·rw[if_neg z];obtain⟨k,rfl⟩:∃k,turn=k+1:=⟨turn - 1,by omega⟩
     exact yN (by omega)
   exact aH rfl (c9 (gG (a6 rfl (ix (d:=.int ((szB bs y:Nat)+1:Int)) rfl rfl rfl rfl) (G8 (by omega))) (aN (Ee rfl rfl rfl (sM rfl) rfl rfl rfl (El rfl hp rfl (by split <;> omega) hh)))))
  ·by_cases c2:szB bs y+1<turn
   ·rw[show bJ bs (.anew x y t) turn vs hand=(vs.set (fstB bs x+(turn - (szB bs y+2))) (hand.getD (turn - (szB bs y+1)) 0),if turn+1=2 * szB bs y+2 then[] else hand,turn+1) from(if_neg c).trans (if_pos c2)];have hs:kZ (.int turn) (.int ((szB bs y:Nat)+1:Int))=okI ((turn - (szB bs y+1):Nat):Int):=by rw[sub_int];congr 4;omega
    have hpl:(c4 bs (.anew x y t))[turn]?=some ([],[fstB bs x+(turn - (szB bs y+2))]):=by
     obtain⟨k,rfl⟩:∃k,turn=szB bs y+2+k:=⟨turn - (szB bs y+2),by omega⟩
     rw[Nat.add_sub_cancel_left];exact yM (by omega)
    have hp:=pY (vs:=vs) (hand:=hand) (c := "Anew") (ns:=[Str.ofString "check"]) (ds:=[.int ((szB bs y:Nat)+1:Int)]) (v:=hand.getD (turn - (szB bs y+1)) 0) rfl hpl rfl rfl (by omega) (by omega)
    rw[hl,show szB bs y+2+szB bs x=2 * szB bs y+2 by omega] at hp
    exact aH rfl (a9 (aJ (a6 rfl (ix (d:=.int ((szB bs y:Nat)+1:Int)) rfl rfl rfl rfl) (xh (by omega))) rfl) (c9 (gG (a6 rfl (ix (d:=.int ((szB bs y:Nat)+1:Int)) rfl rfl rfl rfl) (xp (by omega))) (aN (GT rfl rfl rfl (sN rfl) rfl rfl rfl (a6 rfl (a6 rfl (ix (d:=.int ((szB bs y:Nat)+1:Int)) rfl rfl rfl rfl) hs) (iO (ho (by omega)))) hp)))))
   ·have hz:turn=szB bs y+1:=by omega
    have h0:0<hand.length:=by have:=ho (by omega);omega
    have hr:=Hz (turn:=turn) (c := "Anew") (ns:=[Str.ofString "check"]) (ds:=[.int ((szB bs y:Nat)+1:Int)]) rfl (qo (x:=x) (t:=t) (.inr hz)) (ρ:=cS 4 [(Ay bs (.anew x y t)).val,.int turn,.tup (vs.map D.int),.tup (hand.map D.int)]) (i:=0) (j:=1) rfl rfl rfl;have hi0:dIx (.tup (hand.map D.int)) (.int 0)=okI (hand.getD 0 0):=iO (c:=0) h0;by_cases c3:vs.getD (fstB bs t) 0=hand.getD 0 0
    ·rw[show bJ bs (.anew x y t) turn vs hand=(vs,hand,turn+1) from(if_neg c).trans ((if_neg c2).trans (if_pos c3))];exact aH rfl (a9 (aJ (a6 rfl (ix (d:=.int ((szB bs y:Nat)+1:Int)) rfl rfl rfl rfl) (xh (by omega))) rfl) (a9 (aJ (a6 rfl (ix (d:=.int ((szB bs y:Nat)+1:Int)) rfl rfl rfl rfl) (xq (by omega))) rfl) (c9 (gG (a6 (a6 rfl hr (iO (c:=fstB bs t) (by omega))) (a6 rfl rfl hi0) (zQ c3)) (aN (aU rfl rfl (a6 rfl rfl (oR turn)) rfl))))))
    ·rw[show bJ bs (.anew x y t) turn vs hand=(vs,[],0) from(if_neg c).trans ((if_neg c2).trans (if_neg c3))];exact aH rfl (a9 (aJ (a6 rfl (ix (d:=.int ((szB bs y:Nat)+1:Int)) rfl rfl rfl rfl) (xh (by omega))) rfl) (a9 (aJ (a6 rfl (ix (d:=.int ((szB bs y:Nat)+1:Int)) rfl rfl rfl rfl) (xq (by omega))) rfl) (a9 (aJ (a6 (a6 rfl hr (iO (c:=fstB bs t) (by omega))) (a6 rfl rfl hi0) (zR c3)) rfl) (aN (aU rfl rfl rfl rfl)))))
end
structure Fr where
 row:Nat
 place:Nat
 turn:Nat
 hand:List Int
def Fr.d(f:Fr):D:=.tup [.int f.row,.int f.place,.int f.turn,.tup (f.hand.map D.int)]
def cG(p:List Fr):D:=.tup (p.map Fr.d)
def stD(p:List Fr)(cs:List Int):D:=.tup [cG p,.tup (cs.map D.int)]
abbrev ao(rs:List Rw)(k:Nat):Rw:=rs.getD k ⟨Str.empty,0,[]⟩
theorem fU{rs:List Rw}{k:Nat}(h:k<rs.length):rs[k]=ao rs k:=by
 unfold ao;rw[getD_eq_getElem?_getD,getElem?_eq_getElem h];rfl
theorem mU{rs:List Rw}{k:Nat}(h:k<rs.length):dIx (.tup (rs.map Rw.d)) (.int k)=okD (ao rs k).d:=ix_tup (by rw[getElem?_map,getElem?_eq_getElem h,fU h];rfl)
theorem Gf{ds:List D}{d:D}:dIx (.tup (ds++[d])) (.int (-1))=okD d:=by
 show(A6 (ds++[d]) (-1)).bind okD=_;unfold A6 K6;rw[if_neg (by decide),if_pos (by rw[length_append,length_singleton];omega)]
 have:((-1:Int)+((ds++[d]).length:Int)).toNat=ds.length:=by rw[length_append,length_singleton];omega
 simp only[Option.bind_some,this];rw[getElem?_append_right (le_refl _),Nat.sub_self];rfl
theorem oy(u:List Fr)(top:Fr):dIx (cG (u++[top])) (.int (-1))=okD top.d:=by
 show dIx (.tup ((u++[top]).map Fr.d)) _=_;rw[map_append];exact Gf
theorem Jm(f:Fr):dIx f.d (.int 0)=okI (f.row:Nat):=bU
theorem t4{bs:List Bx}{rs:List Rw}{k:Nat}(h:k<rs.length):cQ [aQ bs rs,.int k]=okD (.tup ((ao rs k).pl.map Aq)):=aH rfl (aN (a6 (a6 (a6 rfl rfl cg) rfl (mU h)) rfl je))
theorem vp(l:List Pl):cC (.tup (l.map Aq))=okI (l.length:Nat):=by rw[rh,length_map]
theorem Kb(f:Fr):dIx f.d (.int 1)=okI (f.place:Nat):=cg
theorem LD(f:Fr):dIx f.d (.int 2)=okI (f.turn:Nat):=je
theorem fr3(f:Fr):dIx f.d (.int 3)=okD (.tup (f.hand.map D.int)):=GY
theorem yp{ds:List D}{d:D}:lN (.tup (ds++[d])) none (some (-1))=okD (.tup ds):=by
 have e:jm (ds++[d]).length (ds++[d]).length (some (-1))=ds.length:=by
  show(if(-1:Int)<0 then((-1:Int)+((ds++[d]).length:Int)).toNat else min (-1:Int).toNat (ds++[d]).length)=_;rw[if_pos (by decide),length_append,length_singleton];omega
 show(if(jm (ds++[d]).length 0 none=0/\jm (ds++[d]).length (ds++[d]).length (some (-1))=(ds++[d]).length) then none else okD (.tup (xT (ds++[d]) none (some (-1)))))=_;rw[e,if_neg (by rw[length_append,length_singleton];omega)]
 show okD (.tup (((ds++[d]).drop 0).take (jm (ds++[d]).length (ds++[d]).length (some (-1)) - 0)))=_;rw[e,List.drop_zero,Nat.sub_zero,List.take_left]
theorem GL{u:List Fr}(h:u.length<=1000)(f:Fr):aK (cG u) (.tup [f.d])=okD (cG (u++[f])):=by
 show aK (.tup (u.map Fr.d)) _=okD (.tup ((u++[f]).map Fr.d));rw[xX (by rw[length_map,length_singleton];omega),map_append];rfl
theorem Jy(n:Nat):aK (.int n) (.int 1)=okI ((n+1:Nat):Int):=rfl
section
variable{bs:List Bx}{rs:List Rw}{u:List Fr}{top:Fr}{cs:List Int}
theorem mO{ρ:MEnv}(h:ρ[1]?=some (some (.sh (cG (u++[top]))))):bx (a5 1) none (some (eC (.int (-1)))) ρ=okD (cG u):=by
 unfold bx;rw[bq h];show lN (.tup ((u++[top]).map Fr.d)) none (some (-1))=_;rw[map_append];exact yp
theorem oO{f:Fr}(h:f.row<rs.length):dB [aQ bs rs,f.d]=okB (decide (f.place=(ao rs f.row).pl.length)):=
 aH rfl (aN (a6 (a6 rfl rfl (Kb f)) (jO (bA rfl (a6 rfl rfl (Jm f)) (t4 h)) (vp _)) (L8 _ _)))
theorem zZ{q:Pl}(h:top.row<rs.length)(hpq:(ao rs top.row).pl[top.place]?=some q):mr [aQ bs rs,.int top.row,.int top.place]=okD q.1.d:=
 aH rfl (aN (a6 (a6 (bA rfl rfl (t4 h)) rfl (ix_tup (by rw[getElem?_map,hpq];rfl))) rfl bU))
theorem E2(dd:Deed):(planS::uX dd).contains (Str.ofString "after")=false/\(planS::uX dd).contains (Str.ofString "turns")=false:=by cases dd <;> exact⟨rfl,rfl⟩
theorem B9(hb:eU bs){q:Pl}(hok:q.1.Ok bs)(hrow:top.row<rs.length)(hpq:(ao rs top.row).pl[top.place]?=some q)(ht:top.turn<(c4 bs q.1).length)(hv:cs.length=l7 bs)(hh:top.hand.length<=1000)(ho:Aa bs q.1 top.turn top.hand)(hu:u.length<=1000){c2 h2:List Int}{t2:Nat}(ha:bJ bs q.1 top.turn cs top.hand=(c2,h2,t2)):
  ia [aQ bs rs,cG (u++[top]),.tup (cs.map D.int)]=okD (if t2<(c4 bs q.1).length then stD (u++[⟨top.row,top.place,t2,h2⟩]) c2 else if 0<top.row/\top.place+1=(ao rs top.row).pl.length then stD u c2 else stD (u++[⟨top.row,top.place+1,0,[]⟩]) c2):=by
 have hlt:top.place<(ao rs top.row).pl.length:=(List.getElem?_eq_some_iff.mp hpq).1;have e1:=oO (bs:=bs) (rs:=rs) (f:=top) hrow;rw[decide_eq_false (by omega)] at e1
 obtain⟨F,tF,eF⟩:=GF hb hok ht hv hh ho;rw[ha] at eF;obtain⟨n1,n2⟩:=E2 q.1;have hdo:=zY hb hok;refine aH rfl (a9 (ay (a6 rfl rfl (oy u top))) (a9 (aJ (bA rfl rfl e1) rfl) (a9 (ay (bA (a6 rfl rfl bU) (aU rfl (a6 rfl rfl (Jm top)) (a6 rfl rfl (Kb top)) (zZ hrow hpq)) hdo)) (cI (a9 (ay (Ee rfl rfl n1 tF (a6 rfl rfl (LD top)) rfl (a6 rfl rfl (fr3 top)) eF)) (cI ?_))))));have hturns:∀ρ:MEnv,ρ[4]?=some (some (.sh (Ay bs q.1).val))->dC (Str.ofString "turns") hJ (a5 4) [] ρ=okI ((c4 bs q.1).length:Nat):=λρ h=>GV (bq h) rfl n2 (pS (F7 q.1)) (Af (F7 q.1));have r2:dIx (Dx (c2,h2,t2)) (.int 2)=okI (t2:Nat):=je;by_cases c:t2<(c4 bs q.1).length
 ·rw[if_pos c];have e2:=oO (bs:=bs) (rs:=rs) (f:=⟨top.row,top.place,t2,h2⟩) hrow;rw[decide_eq_false (by show ¬top.place=(ao rs top.row).pl.length;omega)] at e2
  have hand:∀ρ:MEnv,ρ[0]?=some (some (.sh (aQ bs rs)))->ρ[6]?=some (some (.sh (Fr.d ⟨top.row,top.place,t2,h2⟩)))->fO (a8 sE (a8 dIx (a5 6) (eC (.int 0))) (eC (.int 0))) (ak dB [(a5 0),(a5 6)]) ρ=okB false:=λρ h0 h6=>by
   by_cases c3:0<top.row
   ·exact iA (a6 (a6 (bq h6) rfl bU) rfl (xp (by first|omega|(dsimp only;omega)))) (bA (bq h0) (bq h6) e2)
   ·exact ft (a6 (a6 (bq h6) rfl bU) rfl (xq (by first|omega|(dsimp only;omega))))
  exact a9 (gG (a6 (a6 rfl rfl r2) (hturns _ rfl) (G8 (by omega))) (ay (s:=.sh (Fr.d ⟨top.row,top.place,t2,h2⟩)) (og (a6 rfl rfl (Jm top)) (a6 rfl rfl (Kb top)) (a6 rfl rfl r2) (a6 rfl rfl cg) rfl))) (a9 (aJ (hand _ rfl rfl) rfl) (aN (l6 (s1:=.sh (cG (u++[⟨top.row,top.place,t2,h2⟩]))) (s2:=.sh (.tup (c2.map D.int))) (a6 (mO rfl) (bL rfl rfl) (GL hu ⟨top.row,top.place,t2,h2⟩)) (a6 rfl rfl bU))))
 ·rw[if_neg c];have e2:=oO (bs:=bs) (rs:=rs) (f:=⟨top.row,top.place+1,0,[]⟩) hrow;have e2:dB [aQ bs rs,Fr.d ⟨top.row,top.place+1,0,[]⟩]=okB (decide (top.place+1=(ao rs top.row).pl.length)):=e2;have s6:∀ρ:MEnv,ρ[3]?=some (some (.sh top.d))->aD [(a8 dIx (a5 3) (eC (.int 0))),(a8 aK (a8 dIx (a5 3) (eC (.int 1))) (eC (.int 1))),(eC (.int 0)),(aD [])] ρ=okD (Fr.d ⟨top.row,top.place+1,0,[]⟩):=λρ h=>og (a6 (bq h) rfl (Jm top)) (a6 (a6 (bq h) rfl (Kb top)) rfl (Jy _)) rfl rfl rfl;by_cases c2':0<top.row/\top.place+1=(ao rs top.row).pl.length
  ·rw[if_pos c2'];rw[decide_eq_true c2'.2] at e2;exact a9 (aJ (a6 (a6 rfl rfl r2) (hturns _ rfl) (xh (by omega))) (ay (s6 _ rfl))) (c9 (gG (iA (a6 (a6 rfl rfl bU) rfl (xp (by first|omega|(dsimp only;omega)))) (bA rfl rfl e2)) (aN (l6 (s1:=.sh (cG u)) (s2:=.sh (.tup (c2.map D.int))) (mO rfl) (a6 rfl rfl bU)))))
  ·rw[if_neg c2'];have hand:∀ρ:MEnv,ρ[0]?=some (some (.sh (aQ bs rs)))->ρ[6]?=some (some (.sh (Fr.d ⟨top.row,top.place+1,0,[]⟩)))->fO (a8 sE (a8 dIx (a5 6) (eC (.int 0))) (eC (.int 0))) (ak dB [(a5 0),(a5 6)]) ρ=okB false:=λρ h0 h6=>by
    by_cases c3:0<top.row
    ·rw[decide_eq_false (λz=>c2' ⟨c3,z⟩)] at e2;exact iA (a6 (a6 (bq h6) rfl bU) rfl (xp (by first|omega|(dsimp only;omega)))) (bA (bq h0) (bq h6) e2)
    ·exact ft (a6 (a6 (bq h6) rfl bU) rfl (xq (by first|omega|(dsimp only;omega))))
   exact a9 (aJ (a6 (a6 rfl rfl r2) (hturns _ rfl) (xh (by omega))) (ay (s6 _ rfl))) (a9 (aJ (hand _ rfl rfl) rfl) (aN (l6 (s1:=.sh (cG (u++[⟨top.row,top.place+1,0,[]⟩]))) (s2:=.sh (.tup (c2.map D.int))) (a6 (mO rfl) (bL rfl rfl) (GL hu ⟨top.row,top.place+1,0,[]⟩)) (a6 rfl rfl bU))))
end
def rC(bs:List Bx)(dd:Deed)(turn:Nat)(hand:List Int):Prop:=match dd with
 |.grow x _=>hand.length=min turn (szB bs x)
 |.anew _ y _=>hand.length=min turn (szB bs y+1)
 |_=>hand=[]
theorem EG{bs:List Bx}{dd:Deed}(ok:dd.Ok bs){turn:Nat}{hand:List Int}(h:rC bs dd turn hand)(ht:turn<(c4 bs dd).length):Aa bs dd turn hand:=by
 rw[hU] at ht;cases dd with
 |grow x n=>have h:hand.length=min turn (szB bs x):=h;dsimp only at ht;show szB bs x<=turn->turn - szB bs x<hand.length;omega
 |anew x y t=>have h:hand.length=min turn (szB bs y+1):=h;have:=ok.2.2.2.2.2.2.1;dsimp only at ht;show szB bs y+1<=turn->turn - (szB bs y+1)<hand.length;omega
 |_=>trivial
theorem Gi{bs:List Bx}(hb:eU bs){dd:Deed}(ok:dd.Ok bs){turn:Nat}{hand:List Int}(h:rC bs dd turn hand):hand.length<=3:=by
 cases dd with
 |grow x n=>have h:hand.length=min turn (szB bs x):=h;have:=dX hb ok.1;omega
 |anew x y t=>have h:hand.length=min turn (szB bs y+1):=h;have:=dX hb ok.2.1;omega
 |put x ns=>rw[show hand=[] from h];exact zero_le _
 |copy x y=>rw[show hand=[] from h];exact zero_le _
 |tick x=>rw[show hand=[] from h];exact zero_le _
 |still n=>rw[show hand=[] from h];exact zero_le _
 |non x=>rw[show hand=[] from h];exact zero_le _
 |iz x y n=>rw[show hand=[] from h];exact zero_le _
 |most x y n=>rw[show hand=[] from h];exact zero_le _
theorem kf{a b:Str}{ds:List D}{ρ:MEnv}{i:Nat}(h:ρ[i]?=some (some (.sh (.tup (.str b::ds)))))(e:b≠a):a8 fM (a8 dIx (a5 i) (eC (.int 0))) (eC (.str a)) ρ=okB false:=a6 (a6 (bq h) rfl bU) rfl (aM e)
theorem kt{a:Str}{ds:List D}{ρ:MEnv}{i:Nat}(h:ρ[i]?=some (some (.sh (.tup (.str a::ds))))):a8 fM (a8 dIx (a5 i) (eC (.int 0))) (eC (.str a)) ρ=okB true:=a6 (a6 (bq h) rfl bU) rfl (iT rfl)
structure y8(bs:List Bx)(rs:List Rw)(f:Fr):Prop where
 row:f.row<rs.length
 place:f.place<=(ao rs f.row).pl.length
 turn:∀q,(ao rs f.row).pl[f.place]?=some q->f.turn<(c4 bs q.1).length/\rC bs q.1 f.turn f.hand
 last:f.place=(ao rs f.row).pl.length->f.hand=[]
 lastT:f.place=(ao rs f.row).pl.length->f.turn=0
structure WF(bs:List Bx)(rs:List Rw)(p:List Fr)(cs:List Int):Prop where
 fr:∀f∈p,y8 bs rs f
 hd:∃b r,p=b::r/\b.row=0
 len:cs.length=l7 bs
 most:p.length<=100
section
variable{bs:List Bx}{rs:List Rw}{u:List Fr}{top:Fr}{cs:List Int}
theorem DI(hb:eU bs){dd:Deed}(ok:dd.Ok bs):0<(c4 bs dd).length:=by
 rw[hU];cases dd with
 |grow x n=>have:=dX hb ok.1;dsimp only;omega
 |anew x y t=>dsimp only;omega
 |put x ns=>have:=dX hb ok.1;dsimp only;omega
 |copy x y=>have:=dX hb ok.1;dsimp only;omega
 |tick x=>exact Nat.zero_lt_one
 |still n=>exact ok.1
 |non x=>exact Nat.zero_lt_one
 |iz x y n=>exact Nat.zero_lt_one
 |most x y n=>exact Nat.zero_lt_one
theorem IF(bs:List Bx)(dd:Deed):rC bs dd 0 []:=by
 cases dd <;> first|rfl|(show 0=min 0 _;omega)
theorem xy(hb:eU bs)(hr:∀r∈rs,∀q∈r.pl,q.1.Ok bs){k pl:Nat}(hk:k<rs.length)(hp:pl<=(ao rs k).pl.length):y8 bs rs ⟨k,pl,0,[]⟩:=by
 refine⟨hk,hp,λq hq=>⟨DI hb (hr (ao rs k) ?_ q (mem_of_getElem? hq)),IF bs q.1⟩,λ_=>rfl,λ_=>rfl⟩;rw[←fU hk];exact getElem_mem hk
theorem WF.swap(w:WF bs rs (u++[top]) cs){f:Fr}{cs':List Int}(hf:y8 bs rs f)(hrow:f.row=top.row)(hc:cs'.length=cs.length):WF bs rs (u++[f]) cs':=by
 refine⟨λg hg=>?_,?_,hc.trans w.len,by have:=w.most;rw[length_append,length_singleton] at this ⊢;exact this⟩
 ·rcases mem_append.mp hg with h|h
  ·exact w.fr g (List.mem_append_left _ h)
  ·rw[mem_singleton.mp h];exact hf
 ·obtain⟨b,r,e,h0⟩:=w.hd;cases u with
  |nil=>cases e;exact⟨f,[],rfl,by rw[hrow];exact h0⟩
  |cons a v=>exact⟨a,v++[f],rfl,by rw[(List.cons.inj (show a::(v++[top])=b::r from e)).1];exact h0⟩
theorem WF.pop(w:WF bs rs (u++[top]) cs)(h:0<top.row){cs':List Int}(hc:cs'.length=cs.length):WF bs rs u cs':=by
 refine⟨λg hg=>w.fr g (List.mem_append_left _ hg),?_,hc.trans w.len,by have:=w.most;rw[length_append,length_singleton] at this;omega⟩
 obtain⟨b,r,e,h0⟩:=w.hd;cases u with
 |nil=>cases e;omega
 |cons a v=>exact⟨a,v,rfl,by rw[(List.cons.inj (show a::(v++[top])=b::r from e)).1];exact h0⟩
theorem WF.split{p:List Fr}(w:WF bs rs p cs):∃u t,p=u++[t]:=by
 obtain⟨b,r,e,_⟩:=w.hd;have hne:p≠[]:=by rw[e];exact List.cons_ne_nil _ _
 exact⟨p.dropLast,p.getLast hne,(List.dropLast_concat_getLast hne).symm⟩
end
section
variable{ns:List Int}{bs:List Bx}
theorem w6{α:Type}{l:List α}{a b:α}{k:Nat}(h:(l++[a])[k]?=some b):l[k]?=some b\/(k=l.length/\b=a):=by
 rcases Nat.lt_or_ge k l.length with c|c
 ·rw[getElem?_append_left c] at h;exact .inl h
 ·rw[getElem?_append_right c] at h;have z:k - l.length=0:=by
   rcases Nat.eq_zero_or_pos (k - l.length) with z|z
   ·exact z
   ·rw[getElem?_eq_none (by simp;omega)] at h;cases h
  rw[z] at h;cases h;exact .inr ⟨by omega,rfl⟩
theorem nL(a n:Nat):aK (.int (a:Int)) (.int (n:Int))=okI ((a+n:Nat):Int):=by rw[add_int];congr 4
theorem Aj{a b:Nat}(h:b<=a):kZ (.int (a:Int)) (.int (b:Int))=okI ((a - b:Nat):Int):=by rw[sub_int];congr 4;omega
theorem Fx{k:Int}{bells:Nat}(hk0:0<=k)(hk1:k<=9000)(hb:bells<=6):∃w:Nat,gJ [.lst (ns.map D.int),.int k,.int bells]=okI (w:Nat)/\w<128:=by
 have hs:oJ (.int 1) (.int (bells:Int))=okI ((2 ^ bells:Nat):Int):=by
  rw[pD (by omega) (by omega) (by decide),toNat_natCast,Int.one_mul,Int.natCast_pow];rfl
 have hp2:0<2 ^ bells:=Nat.pow_pos (by decide)
 have hp3:2 ^ bells<=2 ^ 6:=Nat.pow_le_pow_right (by decide) hb
 obtain⟨a,da,ha⟩:=gw (ns:=ns) (k:=k) (m:=((2 ^ bells:Nat):Int)) hk0 (by omega) (by omega)
 obtain⟨b,db,hb'⟩:=gw (ns:=ns) (k:=k+1) (m:=((2 ^ bells:Nat):Int)) (by omega) (by omega) (by omega)
 obtain⟨i,di,hi⟩:=gw (ns:=ns) (k:=5) (m:=3) (by decide) (by decide) (by decide)
 have hand:a &&& b<=a:=Nat.and_le_left;obtain⟨v,ev,hv⟩:∃v:Nat,dIx (.lst [.int 0,.int ((a &&& b:Nat):Int),.int (a:Int)]) (.int (i:Int))=okI (v:Nat)/\v<2 ^ 6:=by
  match i,hi with
  |0,_=>exact⟨0,qS,by decide⟩
  |1,_=>exact⟨a &&& b,xi,by omega⟩
  |2,_=>exact⟨a,AC,by omega⟩
  |n+3,hi=>omega
 refine⟨v * 2,aH rfl (a9 (ay (aU rfl rfl (a6 rfl rfl hs) da)) (a9 (ay (aU rfl (a6 rfl rfl rfl) (a6 rfl rfl hs) db)) (aN (a6 (a6 (s:=.own (.lst [.int 0,.int ((a &&& b:Nat):Int),.int (a:Int)])) (aU rfl (a6 rfl rfl (rn a b)) rfl rfl) (aU rfl rfl rfl di) ev) rfl ?_)))),by omega⟩
 show oJ (.int (v:Int)) (.int 1)=okI ((v * 2:Nat):Int);rw[pD (by decide) (by decide) (by show(v:Int).natAbs<2 ^ 64;omega)]
 congr 4
theorem FA{r:Nat}(hr:r<=6)(hr1:1<=r):∃n:Nat,jg [.lst (ns.map D.int),.int r]=okI (n:Nat)/\1<=n/\n<=9:=by
 obtain⟨w,dw,hw⟩:=gw (ns:=ns) (k:=60+(r:Int)) (m:=9) (by omega) (by omega) (by decide)
 obtain⟨i,di,hi⟩:=gw (ns:=ns) (k:=4) (m:=4) (by decide) (by decide) (by decide)
 have hd:p8 (.int (w:Int)) (.int 3)=okI ((w / 3:Nat):Int):=by rw[xI (by decide) (by decide)];congr 4
 obtain⟨v,ev,h9⟩:∃v:Nat,dIx (.lst [.int ((1+w:Nat):Int),.int ((r+w / 3:Nat):Int),.int ((9 - r:Nat):Int),.int ((1+w / 3:Nat):Int)]) (.int (i:Int))=okI (v:Nat)/\1<=v/\v<=9:=by
  match i,hi with
  |0,_=>exact⟨_,qS,by omega⟩
  |1,_=>exact⟨_,xi,by omega⟩
  |2,_=>exact⟨_,AC,by omega⟩
  |3,_=>exact⟨_,cB (n:=3) rfl,by omega⟩
  |n+4,hi=>omega
 exact⟨v,aH rfl (a9 (ay (aU rfl (a6 rfl rfl rfl) rfl dw)) (aN (a6 (s:=.own (.lst [.int ((1+w:Nat):Int),.int ((r+w / 3:Nat):Int),.int ((9 - r:Nat):Int),.int ((1+w / 3:Nat):Int)])) (og (a6 rfl rfl (nL 1 w)) (a6 rfl (a6 rfl rfl hd) (nL r (w / 3))) (a6 rfl rfl (Aj (a:=9) (by omega))) (a6 rfl (a6 rfl rfl hd) (nL 1 (w / 3))) rfl) (aU rfl rfl rfl di) ev))),h9⟩
theorem G9{b:Nat}(h:b<6):∃c:Nat,dIx (.str (Str.ofString "klmnop")) (.int (b:Int))=okD (.str ⟨#[c]⟩):=by
 match b,h with
 |0,_=>exact⟨107,rfl⟩
 |1,_=>exact⟨108,rfl⟩
 |2,_=>exact⟨109,rfl⟩
 |3,_=>exact⟨110,rfl⟩
 |4,_=>exact⟨111,rfl⟩
 |5,_=>exact⟨112,rfl⟩
def ROx(bs:List Bx)(r:Rw):Prop:=1<=r.pl.length/\∀q∈r.pl,q.1.Ok bs
def ROk(r:Rw):Prop:=r.rk<=9/\r.pl.length<=12/\∀q∈r.pl,q.2<128
abbrev ρP(ns:List Int)(bs:List Bx)(long bells:Nat)(rows:List Rw)(r:Nat)(pl:List Pl)(e7 e8:Option S):MEnv:=
 [some (.sh (.lst (ns.map D.int))),some (.sh (.int long)),some (.sh (cK bs)),some (.sh (.int bells)),some (.own (.lst (rows.map Rw.d))),some (.sh (.int r)),some (.own (.lst (pl.map Aq))),e7,e8]
theorem Hu(hb:eU bs)(h1:1<=bs.length){long bells r:Nat}(hr:r<=6)(hbl:bells<=6){rows:List Rw}{many:Nat}(hm:many<=12)(e7 e8:Option S):
  ∃(pl:List Pl)(e7' e8':Option S),pl.length=many/\(∀q∈pl,q.1.Ok bs/\q.2<128)/\forD (aW 7) kX (rng 0 many) (ρP ns bs long bells rows r [] e7 e8)=some (.next (ρP ns bs long bells rows r pl e7' e8')):=by
 obtain⟨ρ',e,pl,e7',e8',hl,hq,rfl⟩:=mW (bd:=aW 7) (body:=kX) (λk ρ=>∃(pl:List Pl)(e7 e8:Option S),pl.length=k/\(∀q∈pl,q.1.Ok bs/\q.2<128)/\ρ=ρP ns bs long bells rows r pl e7 e8) many (ρ:=ρP ns bs long bells rows r [] e7 e8) ⟨[],e7,e8,rfl,λ_ h=>(nomatch h),rfl⟩ (by
  rintro p ρ hp ⟨pl,e7,e8,hl,hq,rfl⟩
  obtain⟨a,ha⟩:∃a:Int,a=100+200 * (r:Int)+12 * (p:Int):=⟨_,rfl⟩;obtain⟨dd,ok,ed⟩:=Gu (ns:=ns) hb h1 (k:=a) (by omega) (by omega)
  obtain⟨w,ew,hw⟩:=Fx (ns:=ns) (k:=a+7) (bells:=bells) (by omega) (by omega) hbl
  refine⟨_,_,rfl,a9 (ay (s:=.sh (.int a)) ?_) (fq (ds:=pl.map Aq) (s:=.sh (Aq (dd,w))) rfl (l6 (s1:=.sh dd.d) (s2:=.sh (.int (w:Int))) (aU rfl rfl rfl ed) (aU rfl (a6 rfl rfl rfl) rfl ew)) (by rw[length_map];exact lt_of_lt_of_le (by omega:pl.length<12) (by decide))),pl++[(dd,w)],some (.sh (.int p)),some (.sh (.int a)),by rw[length_append,hl];rfl,λq h=>?_,by unfold ρP;rw[map_append (l₁:=pl)];rfl⟩
  ·rw[ha];exact a6 (a6 rfl (a6 rfl rfl (Cf (by decide) (by decide))) rfl) (a6 rfl rfl (Cf (by decide) (by decide))) rfl
  ·rcases mem_append.mp h with h|h
   ·exact hq q h
   ·rw[mem_singleton.mp h];exact⟨ok,hw⟩)
 exact⟨pl,e7',e8',hl,hq,e⟩
theorem yJ{long:Nat}(h1:1<=long)(h2:long<=12):∃(bs:List Bx)(rs:List Rw),gZ [.lst (ns.map D.int),.int long]=okD (aQ bs rs)/\1<=rs.length/\rs.length<=7/\eU bs/\(∀r∈rs,ROk r/\ROx bs r)/\∀k r,rs[k]?=some r->(k=0↔r.rk=0):=by
 obtain⟨bs,ebs,hl,hb⟩:=Fd (ns:=ns);obtain⟨bells,db,hbl⟩:=gw (ns:=ns) (k:=6) (m:=7) (by decide) (by decide) (by decide)
 obtain⟨ρ',e,rs,e5,e6,e7,e8,hl',hq,rfl⟩:=mW (bd:=aW 5) (body:=pz) (λk ρ=>∃(rs:List Rw)(e5 e6 e7 e8:Option S),rs.length=k/\((∀r∈rs,ROk r/\ROx bs r)/\∀k r,rs[k]?=some r->(k=0↔r.rk=0))/\ρ=[some (.sh (.lst (ns.map D.int))),some (.sh (.int long)),some (.sh (cK bs)),some (.sh (.int bells)),some (.own (.lst (rs.map Rw.d))),e5,e6,e7,e8]) (bells+1)
  (ρ:=[some (.sh (.lst (ns.map D.int))),some (.sh (.int long)),some (.sh (cK bs)),some (.sh (.int bells)),some (.own (.lst [])),none,none,none,none]) ⟨[],none,none,none,none,rfl,⟨λ_ h=>(nomatch h),λk r h=>by simp at h⟩,rfl⟩ (by
  rintro r ρ hr ⟨rs,e5,e6,e7,e8,hl',hq,rfl⟩
  obtain⟨m,dm,hm⟩:=gw (ns:=ns) (k:=70+(r:Int)) (m:=(long:Int)) (by omega) (by omega) (by omega)
  obtain⟨pl,e7',e8',hpl,hpq,el⟩:=Hu (ns:=ns) (long:=long) (bells:=bells) (r:=r) (rows:=rs) (many:=1+m) hb hl (by omega) (by omega) (by omega) e7 e8
  have rg:dg (a8 aK (eC (.int 1)) (ak ax [(a5 0),(a8 aK (eC (.int 70)) (a5 5)),(a5 1)])) (ρP ns bs long bells rs r [] e7 e8)=some (.ok (rng 0 ((1+m:Nat):Int))):=j4 (a6 rfl (aU rfl (a6 rfl rfl rfl) rfl dm) (nL 1 m)) (dy (by omega))
  by_cases c:r=0
  ·refine⟨_,_,rfl,a9 (ay rfl) (a9 (lL rg el) (gG (a6 rfl rfl (zQ (by omega))) (cI (fq (ds:=rs.map Rw.d) (s:=.sh (Rw.d ⟨Str.ofString "main",0,pl⟩)) rfl (aU rfl rfl (bL rfl rfl) rfl) (by rw[length_map];exact lt_of_lt_of_le (by omega:rs.length<8) (by decide)))))),rs++[⟨Str.ofString "main",0,pl⟩],_,_,_,_,by rw[length_append,hl'];rfl,⟨λR hR=>?_,λk R hR=>?_⟩,by rw[map_append (l₁:=rs)];rfl⟩
   ·rcases mem_append.mp hR with h|h
    ·exact hq.1 R h
    ·rw[mem_singleton.mp h];exact⟨⟨zero_le _,by show pl.length<=12;omega,λq hq=>(hpq q hq).2⟩,by show 1<=pl.length;omega,λq hq=>(hpq q hq).1⟩
   ·rcases w6 hR with h|⟨h,e⟩
    ·exact hq.2 k R h
    ·subst e;exact⟨λ_=>rfl,λ_=>by omega⟩
  ·obtain⟨n,en,h9⟩:=FA (ns:=ns) (r:=r) (by omega) (by omega)
   obtain⟨ch,ech⟩:=G9 (b:=r - 1) (by omega)
   obtain⟨y,ey⟩:=Ec (x:=⟨#[ch]⟩) (n:=1+r % 2) rfl (by omega)
   have hmd:km (.int (r:Int)) (.int 2)=okI ((r % 2:Nat):Int):=by rw[iN (by decide)];congr 4
   refine⟨_,_,rfl,a9 (ay rfl) (a9 (lL rg el) (aJ (a6 rfl rfl (zR (by omega))) (cI (fq (ds:=rs.map Rw.d) (s:=.sh (Rw.d ⟨y,n,pl⟩)) rfl (aU (a6 (a6 rfl (a6 rfl rfl (Aj (a:=r) (b:=1) (by omega))) ech) (a6 rfl (a6 rfl rfl hmd) (nL 1 (r % 2))) ey) (bA rfl rfl en) (bL rfl rfl) rfl) (by rw[length_map];exact lt_of_lt_of_le (by omega:rs.length<8) (by decide)))))),rs++[⟨y,n,pl⟩],_,_,_,_,by rw[length_append,hl'];rfl,⟨λR hR=>?_,λk R hR=>?_⟩,by rw[map_append (l₁:=rs)];rfl⟩
   ·rcases mem_append.mp hR with h|h
    ·exact hq.1 R h
    ·rw[mem_singleton.mp h];exact⟨⟨h9.2,by show pl.length<=12;omega,λq hq=>(hpq q hq).2⟩,by show 1<=pl.length;omega,λq hq=>(hpq q hq).1⟩
   ·rcases w6 hR with h|⟨h,e⟩
    ·exact hq.2 k R h
    ·subst e;exact⟨λz=>by omega,λz=>by have z:n=0:=z;omega⟩)
 exact⟨bs,rs,aH rfl (a9 (ay (bL rfl ebs)) (a9 (ay (aU rfl rfl rfl db)) (a9 (ay rfl) (a9 (lL (j4 (a6 rfl rfl (nL bells 1)) (dy (by omega))) e) (cI (aN (l6 (s1:=.sh (cK bs)) (s2:=.sh (.tup (rs.map Rw.d))) rfl (bL rfl rfl)))))))),by omega,by omega,hb,hq.1,hq.2⟩
end
def wdAt(rs:List Rw)(r p:Nat):Nat:=((ao rs r).pl[p]?.map (·.2)).getD 0
def cntN(rs:List Rw)(r:Nat):Nat:=if r=0 then(ao rs r).pl.length+1 else(ao rs r).pl.length
def Gj(rs:List Rw)(r s k:Nat):Bool:=decide ((ao rs r).rk<(ao rs k).rk) && !s.testBit k
abbrev T3:=Nat×Nat×Nat
def t3D(t:T3):D:=.tup [.int t.1,.int t.2.1,.int t.2.2]
def ik(rs:List Rw)(r p s:Nat)(l:List Nat):List T3:=(l.filter λk=>Gj rs r s (1+k)).map λk=>(p,1+k,s)
def atN(rs:List Rw)(r w p:Nat):List T3:=ik rs r p (w ||| wdAt rs r p) (List.range (rs.length - 1))
def ff(rs:List Rw)(r w:Nat):List T3:=(List.range (cntN rs r)).flatMap (atN rs r w)
section
variable{bs:List Bx}{rs:List Rw}{r w:Nat}
theorem Dq(h:r<rs.length)(hl:(ao rs r).pl.length<=12):ek [aQ bs rs,.int r]=okL ((List.range (cntN rs r)).map intD):=by
 have hr:ra (.int (cntN rs r:Nat))=okL ((List.range (cntN rs r)).map intD):=by
  have hc:cntN rs r<=13:=by unfold cntN;split <;> omega
  show(if gf (cntN rs r:Nat)=true/\((cntN rs r:Nat):Int).toNat<=lim then okL (rng 0 (cntN rs r:Nat)) else none)=_;rw[if_pos ⟨dy (by omega),by rw[toNat_natCast];exact le_trans hc (by decide)⟩,yC]
 have hif:Gq (a8 fM (a5 1) (eC (.int 0))) (a8 aK (a5 2) (eC (.int 1))) (a5 2) [some (.sh (aQ bs rs)),some (.sh (.int r)),some (.sh (.int ((ao rs r).pl.length:Nat)))]=okI (cntN rs r:Nat):=by
  unfold cntN;by_cases c:r=0
  ·rw[if_pos c];exact EB (a6 rfl rfl (zQ (by omega))) (a6 rfl rfl (nL _ 1))
  ·rw[if_neg c];exact EC (a6 rfl rfl (zR (by omega))) rfl
 exact aH rfl (a9 (ay (jO (a6 (a6 (a6 rfl rfl cg) rfl (mU h)) rfl je) (vp _))) (aN (ud hif hr)))
theorem Ab(h:r<rs.length)(p:Nat):fL [aQ bs rs,.int r,.int p]=okI (wdAt rs r p:Nat):=by
 have pe:cQ [aQ bs rs,.int r]=okD (.tup ((ao rs r).pl.map Aq)):=aH rfl (aN (a6 (a6 (a6 rfl rfl cg) rfl (mU h)) rfl je));refine aH rfl (a9 (ay (bA rfl rfl pe)) (aN (s:=.sh (.int (wdAt rs r p:Nat))) ?_));by_cases c:p<(ao rs r).pl.length
 ·have hq:(ao rs r).pl[p]?=some (ao rs r).pl[p]:=getElem?_eq_getElem c;have e:wdAt rs r p=(ao rs r).pl[p].2:=by unfold wdAt;rw[hq];rfl
  rw[e];exact EB (a6 rfl (jO (u7 rfl) (vp _)) (G8 (by omega))) (a6 (a6 rfl rfl (ix_tup (d:=Aq (ao rs r).pl[p]) (by rw[getElem?_map,hq];rfl))) rfl cg)
 ·have e:wdAt rs r p=0:=by unfold wdAt;rw[getElem?_eq_none (by omega)];rfl
  rw[e];exact EC (a6 rfl (jO (u7 rfl) (vp _)) (xh (by omega))) rfl
abbrev ρS(bs:List Bx)(rs:List Rw)(r w:Nat)(l:List T3)(e5 e6 e7:Option S):MEnv:=[some (.sh (aQ bs rs)),some (.sh (.int r)),some (.sh (.int w)),some (.sh (.tup (rs.map Rw.d))),some (.own (.lst (l.map t3D))),e5,e6,e7]
theorem tE(p s:Nat)(l:List Nat):(ik rs r p s l).length<=l.length:=by unfold ik;rw[length_map];exact List.length_filter_le _ _
theorem xH(q:List Nat):(q.flatMap (atN rs r w)).length<=(rs.length - 1) * q.length:=by
 induction q with
 |nil=>exact zero_le _
 |cons a q ih=>
  have:=tE (rs:=rs) (r:=r) a (w ||| wdAt rs r a) (List.range (rs.length - 1));rw[length_range] at this;rw[List.flatMap_cons,length_append,length_cons,Nat.mul_succ];have ha:(atN rs r w a).length<=rs.length - 1:=this;omega
theorem L1{ρ:MEnv}{k s:Nat}(h:r<rs.length)(hk:k<rs.length){i3 i1 i7 i6:Nat}(h3:ρ[i3]?=some (some (.sh (.tup (rs.map Rw.d)))))(h1:ρ[i1]?=some (some (.sh (.int r))))(h7:ρ[i7]?=some (some (.sh (.int k))))(h6:ρ[i6]?=some (some (.sh (.int s)))):
  fO (a8 sE (a8 dIx (a8 dIx (a5 i3) (a5 i7)) (eC (.int 1))) (a8 dIx (a8 dIx (a5 i3) (a5 i1)) (eC (.int 1)))) (a8 fM (a8 kn (a8 pq (a5 i6) (a5 i7)) (eC (.int 1))) (eC (.int 0))) ρ=okB (Gj rs r s k):=by
 have a1:a8 dIx (a8 dIx (a5 i3) (a5 i7)) (eC (.int 1)) ρ=okI ((ao rs k).rk:Nat):=a6 (a6 (bq h3) (bq h7) (mU hk)) rfl cg;have a2:a8 dIx (a8 dIx (a5 i3) (a5 i1)) (eC (.int 1)) ρ=okI ((ao rs r).rk:Nat):=a6 (a6 (bq h3) (bq h1) (mU h)) rfl cg;have a3:=AY (ρ:=ρ) (w:=s) (k:=k) (bq h6) (bq h7);unfold Gj;by_cases c:(ao rs r).rk<(ao rs k).rk
 ·rw[decide_eq_true c,Bool.true_and];exact iA (a6 a1 a2 (xp (by omega))) a3
 ·rw[decide_eq_false c,Bool.false_and];exact ft (a6 a1 a2 (xq (by omega)))
theorem vZ(h:r<rs.length)(h7:rs.length<=7)(hl:(ao rs r).pl.length<=12):cX [aQ bs rs,.int r,.int w]=okD (.lst ((ff rs r w).map t3D)):=by
 have hc:cntN rs r<=13:=by unfold cntN;split <;> omega
 obtain⟨ρ',e,e5,e6,e7,rfl⟩:=ki (bd:=aW 5) (body:=vM) intD (λq ρ=>∃e5 e6 e7:Option S,ρ=ρS bs rs r w (q.flatMap (atN rs r w)) e5 e6 e7) (List.range (cntN rs r)) (ρ:=ρS bs rs r w [] none none none) ⟨none,none,none,rfl⟩ (by
  rintro q p post ρ hq ⟨e5,e6,e7,rfl⟩
  have hql:q.length<=13:=by have:=congrArg List.length hq;rw[length_range,length_append] at this;omega
  have hfl:=xH (rs:=rs) (r:=r) (w:=w) q;have hmul:(rs.length - 1) * q.length<=6 * 13:=Nat.mul_le_mul (by omega) hql
  obtain⟨ρ2,e2,e7',rfl⟩:=ki (bd:=aW 7) (body:=vN) (λk:Nat=>D.int ((1+k:Nat):Int)) (λu ρ=>∃e7:Option S,ρ=ρS bs rs r w (q.flatMap (atN rs r w)++ik rs r p (w ||| wdAt rs r p) u) (some (.sh (.int p))) (some (.sh (.int (w ||| wdAt rs r p:Nat)))) e7) (List.range (rs.length - 1)) (ρ:=ρS bs rs r w (q.flatMap (atN rs r w)) (some (.sh (.int p))) (some (.sh (.int (w ||| wdAt rs r p:Nat)))) e7) ⟨e7,by unfold ik;simp⟩ (by
   rintro u k post' ρ hu ⟨e7,rfl⟩
   have hk:1+k<rs.length:=by
    have:k∈List.range (rs.length - 1):=by rw[hu];simp
    have:=mem_range.mp this;omega
   have hul:u.length<=6:=by have:=congrArg List.length hu;rw[length_range,length_append] at this;omega
   have hil:=tE (rs:=rs) (r:=r) p (w ||| wdAt rs r p) u;have cond:=L1 (rs:=rs) (r:=r) (k:=1+k) (s:=w ||| wdAt rs r p) (ρ:=ρS bs rs r w (q.flatMap (atN rs r w)++ik rs r p (w ||| wdAt rs r p) u) (some (.sh (.int p))) (some (.sh (.int (w ||| wdAt rs r p:Nat)))) (some (.sh (.int ((1+k:Nat):Int))))) (i3:=3) (i1:=1) (i7:=7) (i6:=6) h hk rfl rfl rfl rfl;have snoc:ik rs r p (w ||| wdAt rs r p) (u++[k])=ik rs r p (w ||| wdAt rs r p) u++(if Gj rs r (w ||| wdAt rs r p) (1+k)=true then[(p,1+k,w ||| wdAt rs r p)] else[]):=by
    unfold ik;rw[List.filter_append,map_append,List.filter_cons,List.filter_nil];split <;> rfl
   cases hg:Gj rs r (w ||| wdAt rs r p) (1+k) with
   |true=>
    rw[hg] at cond;refine⟨_,_,rfl,.inl (gG cond (fq (s:=.sh (t3D (p,1+k,w ||| wdAt rs r p))) rfl (aU rfl rfl rfl rfl) (by rw[length_map,length_append];exact lt_of_lt_of_le (by omega:_<100) (by decide)))),some (.sh (.int ((1+k:Nat):Int))),?_⟩
    rw[snoc,hg,if_pos rfl,←append_assoc];unfold ρS;rw[map_append (l₂:=[(p,1+k,w ||| wdAt rs r p)])];rfl
   |false=>
    rw[hg] at cond;refine⟨_,_,rfl,.inl (aJ cond rfl),some (.sh (.int ((1+k:Nat):Int))),?_⟩;rw[snoc,hg,if_neg Bool.false_ne_true,append_nil];rfl)
  have rg:mj (eC (.int 1)) (aY (f1 cC) [(il 3)]) (ρS bs rs r w (q.flatMap (atN rs r w)) (some (.sh (.int p))) (some (.sh (.int (w ||| wdAt rs r p:Nat)))) e7)=some (.ok ((List.range (rs.length - 1)).map λk:Nat=>D.int ((1+k:Nat):Int))):=by
   rw[←JE 1 rs.length];exact DA rfl (jO (u7 rfl) (by show cC (.tup (rs.map Rw.d))=_;rw[rh,length_map])) (by decide) (dy (by omega))
  refine⟨_,_,rfl,.inl (a9 (ay (a6 rfl (aU rfl rfl rfl (Ab h p)) (vK _ _))) (lL rg e2)),some (.sh (.int p)),some (.sh (.int (w ||| wdAt rs r p:Nat))),e7',?_⟩;rw[List.flatMap_append,List.flatMap_cons,List.flatMap_nil,append_nil];rfl)
 exact aH rfl (a9 (ay (a6 rfl rfl cg)) (a9 (ay rfl) (a9 (lL (ig (bA rfl rfl (Dq h hl)) rfl) e) (cI (aN rfl)))))
end
def cw(a b:Nat):List Int:=[(a:Int),(b:Int)]
theorem qR{a b c d:Nat}(h:cw a b=cw c d):a=c/\b=d:=by
 unfold cw at h;have h1:=(List.cons.inj h).1;have h2:=(List.cons.inj (List.cons.inj h).2).1;omega
structure eT(rs:List Rw)(kvs:Tb):Prop where
 keys:∀p∈kvs,∃a b:Nat,p.1=cw a b/\a<rs.length/\b<128/\0<=p.2/\(∀t∈ff rs a b,∃d',c7 kvs (cw t.2.1 t.2.2)=some d'/\d'<p.2)/\(p.2=0\/∃t∈ff rs a b,c7 kvs (cw t.2.1 t.2.2)=some (p.2 - 1))
 nd:(kvs.map (·.1)).Nodup
theorem xt{kvs:Tb}{k:List Int}{v:Int}(h:c7 kvs k=some v):(k,v)∈kvs:=by
 unfold c7 at h;cases hf:kvs.find? λp=>decide (p.1=k) with
 |none=>rw[hf] at h;cases h
 |some p=>
  rw[hf] at h;cases h;have h1:=List.mem_of_find?_eq_some hf;have h2:p.1=k:=by have:=List.find?_some hf;exact of_decide_eq_true this
  rw[←h2];exact h1
theorem tH{kvs:Tb}{k:List Int}(h:c7 kvs k=none):k∉kvs.map (·.1):=λhm=>by
 obtain⟨p,hp,e⟩:=mem_map.mp hm;unfold c7 at h;have:=List.find?_eq_none.mp (Option.map_eq_none_iff.mp h) p hp;exact this (decide_eq_true e)
theorem ml{kvs:Tb}{k j:List Int}{v:Int}(h:c7 kvs k=none):c7 (kvs++[(k,v)]) j=if j=k then some v else c7 kvs j:=by
 unfold c7 at h ⊢;rw[List.find?_append];by_cases c:j=k
 ·subst c;rw[if_pos rfl,Option.map_eq_none_iff.mp h];simp
 ·rw[if_neg c];cases hf:kvs.find? λp=>decide (p.1=j) with
  |some p=>rfl
  |none=>
   have:¬k=j:=λz=>c z.symm;simp[this]
theorem DB{kvs:Tb}{k:List Int}{v:Int}(h:c7 kvs k=none):yE kvs k v=kvs++[(k,v)]:=by
 unfold yE;have:(kvs.any λp=>decide (p.1=k))=false:=by
  rw[Bool.eq_false_iff];intro z;obtain⟨p,hp,e⟩:=List.any_eq_true.mp z;exact tH h (mem_map.mpr ⟨p,hp,of_decide_eq_true e⟩)
 rw[this];rfl
theorem oA:∀(N:Nat)(l:List Nat),l.Nodup->(∀x∈l,x<N)->l.length<=N
 |0,l,_,h=>by
  cases l with
  |nil=>exact le_refl _
  |cons a l=>exact absurd (h a mem_cons_self) (Nat.not_lt_zero _)
 |N+1,l,nd,h=>by
  by_cases c:N∈l
  ·have h1:=oA N (l.erase N) (nd.erase N) λx hx=>by
    have hx':=(nd.mem_erase_iff).mp hx;have:=h x hx'.2;have:=hx'.1;omega
   rw[List.length_erase_of_mem c] at h1;omega
  ·have:=oA N l nd λx hx=>by
    have h1:=h x hx;have:x≠N:=λz=>c (z▸hx);omega
   omega
theorem eT.len{rs:List Rw}{kvs:Tb}(g:eT rs kvs)(h7:rs.length<=7):kvs.length<=896:=by
 have enc:∀k:List Int,∃n:Nat,n=((k.getD 0 0) * 128+k.getD 1 0).toNat:=λk=>⟨_,rfl⟩;have hl:=oA 896 ((kvs.map (·.1)).map λk=>((k.getD 0 0) * 128+k.getD 1 0).toNat) (by
  rw[List.nodup_iff_pairwise_ne,List.pairwise_map];have hnd:=g.nd;rw[List.nodup_iff_pairwise_ne] at hnd;refine List.Pairwise.imp_of_mem (λ{x y} hx hy hne z=>?_) hnd;obtain⟨p,hp,rfl⟩:=mem_map.mp hx;obtain⟨q,hq,rfl⟩:=mem_map.mp hy;obtain⟨a,b,e1,_,h1,_⟩:=g.keys p hp;obtain⟨c,d,e2,_,h2,_⟩:=g.keys q hq;apply hne;rw[e1,e2] at z ⊢;have z:((a:Int) * 128+(b:Int)).toNat=((c:Int) * 128+(d:Int)).toNat:=z;have:a=c/\b=d:=by omega
  rw[this.1,this.2]) λn hn=>by
  obtain⟨k,hk,rfl⟩:=mem_map.mp hn;obtain⟨p,hp,rfl⟩:=mem_map.mp hk;obtain⟨a,b,e1,h1,h2,_⟩:=g.keys p hp;rw[e1];show((a:Int) * 128+(b:Int)).toNat<896;omega
 rw[length_map,length_map] at hl;exact hl
theorem eT.get{rs:List Rw}{kvs:Tb}(g:eT rs kvs){a b:Nat}{v:Int}(h:c7 kvs (cw a b)=some v):a<rs.length/\b<128/\0<=v/\∀t∈ff rs a b,∃d',c7 kvs (cw t.2.1 t.2.2)=some d'/\d'<v:=by
 obtain⟨c,d,e,h1,h2,h3,h4⟩:=g.keys _ (xt h);obtain⟨rfl,rfl⟩:=qR e;exact⟨h1,h2,h3,h4.1⟩
theorem eT.tight{rs:List Rw}{kvs:Tb}(g:eT rs kvs){a b:Nat}{v:Int}(h:c7 kvs (cw a b)=some v):v=0\/∃t∈ff rs a b,c7 kvs (cw t.2.1 t.2.2)=some (v - 1):=by
 obtain⟨c,d,e,h1,h2,h3,h4⟩:=g.keys _ (xt h);obtain⟨rfl,rfl⟩:=qR e;exact h4.2
theorem eT.put{rs:List Rw}{kvs:Tb}(g:eT rs kvs){a b:Nat}{v:Int}(h:c7 kvs (cw a b)=none)(ha:a<rs.length)(hb:b<128)(hv:0<=v)(hs:∀t∈ff rs a b,∃d',c7 kvs (cw t.2.1 t.2.2)=some d'/\d'<v)(hti:v=0\/∃t∈ff rs a b,c7 kvs (cw t.2.1 t.2.2)=some (v - 1)):eT rs (kvs++[(cw a b,v)]):=by
 have up:∀{k:List Int}{d:Int},c7 kvs k=some d->c7 (kvs++[(cw a b,v)]) k=some d:=λ{k d} z=>by
  rw[ml h,if_neg λy=>by rw[y,h] at z;cases z];exact z
 refine⟨λp hp=>?_,?_⟩
 ·rcases mem_append.mp hp with hp|hp
  ·obtain⟨c,d,e,h1,h2,h3,h4⟩:=g.keys p hp;exact⟨c,d,e,h1,h2,h3,λt ht=>let ⟨x,y,z⟩:=h4.1 t ht;⟨x,up y,z⟩,h4.2.imp id λ⟨t,h,z⟩=>⟨t,h,up z⟩⟩
  ·rw[mem_singleton.mp hp];exact⟨a,b,rfl,ha,hb,hv,λt ht=>let ⟨x,y,z⟩:=hs t ht;⟨x,up y,z⟩,hti.imp id λ⟨t,h,z⟩=>⟨t,h,up z⟩⟩
 ·rw[map_append];exact List.nodup_append.mpr ⟨g.nd,by simp,λx hx y hy z=>by
   have:y=cw a b:=mem_singleton.mp hy;subst z;rw[this] at hx;exact tH h hx⟩
structure ku(rs:List Rw)(rk:Nat)(kvs kvs':Tb):Prop where
 ext:∀k v,c7 kvs k=some v->c7 kvs' k=some v
 new:∀a b v,c7 kvs' (cw a b)=some v->c7 kvs (cw a b)=none->rk<=(ao rs a).rk
theorem ku.refl{rs:List Rw}{rk:Nat}(kvs:Tb):ku rs rk kvs kvs:=⟨λ_ _ h=>h,λa b v h h'=>by rw[h] at h';cases h'⟩
theorem ku.trans{rs:List Rw}{rk:Nat}{k1 k2 k3:Tb}(x:ku rs rk k1 k2)(y:ku rs rk k2 k3):ku rs rk k1 k3:=
 ⟨λk v h=>y.ext k v (x.ext k v h),λa b v h h'=>by
  cases z:c7 k2 (cw a b) with
  |none=>exact y.new a b v h z
  |some u=>exact x.new a b u z h'⟩
theorem ku.le{rs:List Rw}{i j:Nat}{k1 k2:Tb}(x:ku rs j k1 k2)(h:i<=j):ku rs i k1 k2:=⟨x.ext,λa b v h1 h2=>le_trans h (x.new a b v h1 h2)⟩
theorem GZ{n:Bool}{i:Nat}{g:ME}{ρ:MEnv}{o:O}{kvs:Tb}{ks:List Int}(h:iy i ρ=some (o,kvs))(hk:g ρ=okD (.tup (ks.map D.int))):zV n i g ρ=okB (n != (c7 kvs ks).isSome):=by
 unfold zV;rw[h];show(kT (g ρ)).bind _=_;rw[hk,kO];rfl
theorem GD{i:Nat}{g:ME}{ρ:MEnv}{o:O}{kvs:Tb}{ks:List Int}{v:Int}(h:iy i ρ=some (o,kvs))(hk:g ρ=okD (.tup (ks.map D.int)))(hv:c7 kvs ks=some v):D9 i g ρ=okI v:=by
 unfold D9;rw[h];show(kT (g ρ)).bind _=_;rw[hk,kO];show(c7 kvs ks).bind okI=_;rw[hv];rfl
theorem HC{i:Nat}{gk ge:ME}{ρ:MEnv}{o:O}{kvs:Tb}{ks:List Int}{v:Int}(h:iy i ρ=some (o,kvs))(hk:gk ρ=okD (.tup (ks.map D.int)))(hv:ge ρ=okI v)(hl:kvs.length<lim):sV i gk ge ρ=some (.next (ρ.set i (some (.own (o.put (.dic (yE kvs ks v))))))):=by
 unfold sV;rw[hv];show(iy i ρ).bind _=_;rw[h];show(kT (gk ρ)).bind _=_;rw[hk,kO];exact if_pos hl
theorem yD{j:Nat}{e:ME}{ρ:MEnv}{s:S}{a:Nat}{o:O}(h:e ρ=some (.ok s))(h2:ρ[j]?=some (some (.own (.par a o)))):wc j e ρ=some (.ret (.two s.val a o)):=by
 unfold wc;rw[h];show(match ρ[j]? with|some (some (.own (.par a o)))=>some (oq.ret (.two s.val a o))|_=>none)=_
 rw[h2]
theorem lE:∀vs:List Int,intsOf (vs.map D.int)=some vs
 |[]=>rfl
 |v::vs=>by rw[map_cons];unfold intsOf;rw[lE vs];rfl
theorem sL{ρ:MEnv}{i j:Nat}{a b:Nat}(h1:ρ[i]?=some (some (.sh (.int (a:Int)))))(h2:ρ[j]?=some (some (.sh (.int (b:Int))))):aD [(a5 i),(a5 j)] ρ=okD (.tup ((cw a b).map D.int)):=l6 (bq h1) (bq h2)
structure vR(rs:List Rw):Prop where
 n1:1<=rs.length
 n7:rs.length<=7
 row:∀r∈rs,ROk r
theorem vR.at{rs:List Rw}(g:vR rs){r:Nat}(h:r<rs.length):ROk (ao rs r):=g.row _ (by rw[←fU h];exact getElem_mem h)
section
variable{bs:List Bx}{rs:List Rw}
theorem Jp(g:vR rs){r:Nat}(h:r<rs.length)(p:Nat):wdAt rs r p<128:=by
 unfold wdAt;cases hq:(ao rs r).pl[p]? with
 |none=>decide
 |some q=>exact(g.at h).2.2 q (mem_of_getElem? hq)
theorem Bg(g:vR rs){r w:Nat}(h:r<rs.length)(hw:w<128){t:T3}(ht:t∈ff rs r w):t.2.1<rs.length/\(ao rs r).rk<(ao rs t.2.1).rk/\t.2.2<128:=by
 unfold ff at ht;obtain⟨p,hp,ht⟩:=List.mem_flatMap.mp ht;unfold atN ik at ht;obtain⟨k,hk,rfl⟩:=mem_map.mp ht;obtain⟨h1,h2⟩:=mem_filter.mp hk;have h1:=mem_range.mp h1;have h2:Gj rs r (w ||| wdAt rs r p) (1+k)=true:=h2;unfold Gj at h2;obtain⟨h3,_⟩:=(Bool.and_eq_true _ _).mp h2;exact⟨by show 1+k<rs.length;omega,of_decide_eq_true h3,Nat.or_lt_two_pow (n:=7) hw (Jp g h p)⟩
theorem Bh(g:vR rs){r w:Nat}(h:r<rs.length):(ff rs r w).length<=78:=by
 have h1:=xH (rs:=rs) (r:=r) (w:=w) (List.range (cntN rs r));have hc:cntN rs r<=13:=by have:=(g.at h).2.1;unfold cntN;split <;> omega
 have:=g.n7;have h2:(rs.length - 1) * cntN rs r<=6 * 13:=Nat.mul_le_mul (by omega) hc
 rw[length_range] at h1;exact le_trans h1 h2
abbrev ρM(bs:List Bx)(rs:List Rw)(r w a:Nat)(kvs:Tb)(e4 e5:Option S):MEnv:=[some (.sh (aQ bs rs)),some (.sh (.int r)),some (.sh (.int w)),some (.own (.par a (.dic kvs))),e4,e5]
def Hg(bs:List Bx)(rs:List Rw)(G:MF)(lo:Nat):Prop:=∀(r w:Nat)(kvs:Tb),r<rs.length->w<128->lo<(ao rs r).rk->eT rs kvs->∃(d:Int)(kvs':Tb),G (.dic kvs) [aQ bs rs,.int r,.int w] []=some (.int d,.dic kvs')/\eT rs kvs'/\ku rs (ao rs r).rk kvs kvs'/\c7 kvs' (cw r w)=some d
theorem AS(g:vR rs){G:MF}{r w:Nat}(h:r<rs.length)(hw:w<128)(hG:Hg bs rs G (ao rs r).rk):∀(ts:List T3)(kvs:Tb),(∀t∈ts,t∈ff rs r w)->eT rs kvs->
  ∃(vs:List Int)(kvs':Tb),(∀a:Nat,o4 [5] (aW 5) (vo aK (ir 3 G [(a5 0),(a8 dIx (a5 5) (eC (.int 1))),(a8 dIx (a5 5) (eC (.int 2)))] []) (eC (.int 1))) (ts.map t3D) (ρM bs rs r w a kvs none none)=some (vs.map D.int,ρM bs rs r w a kvs' none none))/\eT rs kvs'/\ku rs ((ao rs r).rk+1) kvs kvs'/\(∀t∈ts,∃d,c7 kvs' (cw t.2.1 t.2.2)=some d/\0<=d/\d+1∈vs)/\∀x∈vs,∃t∈ts,c7 kvs' (cw t.2.1 t.2.2)=some (x - 1)
 |[],kvs,_,gk=>⟨[],kvs,λ_=>rfl,gk,.refl kvs,λt ht=>(nomatch ht),λx hx=>(nomatch hx)⟩
 |t::ts,kvs,hm,gk=>by
  obtain⟨h1,h2,h3⟩:=Bg g h hw (hm t mem_cons_self);obtain⟨d,k1,eG,g1,gr1,gd⟩:=hG t.2.1 t.2.2 kvs h1 h3 h2 gk;obtain⟨vs,k2,ec,g2,gr2,hd,hx⟩:=AS g h hw hG ts k1 (λu hu=>hm u (mem_cons_of_mem _ hu)) g1;have gd2:=gr2.ext _ _ gd;refine⟨(d+1)::vs,k2,λa=>?_,g2,(gr1.le (by omega)).trans gr2,λu hu=>?_,λx hxm=>?_⟩
  ·have ea:cY [(a5 0),(a8 dIx (a5 5) (eC (.int 1))),(a8 dIx (a5 5) (eC (.int 2)))] (ρM bs rs r w a kvs none (some (.sh (t3D t))))=some [aQ bs rs,.int t.2.1,.int t.2.2]:=rfl;have el:vo aK (ir 3 G [(a5 0),(a8 dIx (a5 5) (eC (.int 1))),(a8 dIx (a5 5) (eC (.int 2)))] []) (eC (.int 1)) (ρM bs rs r w a kvs none (some (.sh (t3D t))))=some (.int (d+1),ρM bs rs r w a k1 none (some (.sh (t3D t)))):=by
    have mc:ir 3 G [(a5 0),(a8 dIx (a5 5) (eC (.int 1))),(a8 dIx (a5 5) (eC (.int 2)))] [] (ρM bs rs r w a kvs none (some (.sh (t3D t))))=some (.int d,ρM bs rs r w a k1 none (some (.sh (t3D t)))):=by
     show((cY [(a5 0),(a8 dIx (a5 5) (eC (.int 1))),(a8 dIx (a5 5) (eC (.int 2)))] (ρM bs rs r w a kvs none (some (.sh (t3D t))))).bind λds=>(some []).bind λes=>(G (.dic kvs) ds es).map λp=>(p.1,(ρM bs rs r w a kvs none (some (.sh (t3D t)))).set 3 (some (.own (O.put (.par a (.dic kvs)) p.2)))))=_;rw[ea];show(G (.dic kvs) [aQ bs rs,.int t.2.1,.int t.2.2] []).map _=_;rw[eG];rfl
    unfold vo;rw[mc];rfl
   rw[map_cons];unfold o4;show(vo aK (ir 3 G [(a5 0),(a8 dIx (a5 5) (eC (.int 1))),(a8 dIx (a5 5) (eC (.int 2)))] []) (eC (.int 1)) (ρM bs rs r w a kvs none (some (.sh (t3D t))))).bind _=_;rw[el];show(o4 [5] (aW 5) _ (ts.map t3D) (ρM bs rs r w a k1 none none)).map _=_;rw[ec a];rfl
  ·rcases mem_cons.mp hu with rfl|hu
   ·exact⟨d,gd2,(g2.get gd2).2.2.1,mem_cons_self⟩
   ·obtain⟨x,y1,y2,y3⟩:=hd u hu;exact⟨x,y1,y2,mem_cons_of_mem _ y3⟩
  ·rcases mem_cons.mp hxm with rfl|hxm
   ·exact⟨t,mem_cons_self,by rw[gd2];congr 1;omega⟩
   ·obtain⟨u,h1,h2⟩:=hx x hxm;exact⟨u,mem_cons_of_mem _ h1,h2⟩
theorem vd(g:vR rs){G:MF}{r w:Nat}{kvs:Tb}(h:r<rs.length)(hw:w<128)(hG:Hg bs rs G (ao rs r).rk)(gk:eT rs kvs):
  ∃(d:Int)(kvs':Tb),CL 3 4 6 (gE G) (.dic kvs) [aQ bs rs,.int r,.int w] []=some (.int d,.dic kvs')/\eT rs kvs'/\ku rs (ao rs r).rk kvs kvs'/\c7 kvs' (cw r w)=some d:=by
 cases hk:c7 kvs (cw r w) with
 |some d=>
  refine⟨d,kvs,ER rfl rfl λa=>?_,gk,.refl _,hk⟩;have e:gE G (ρM bs rs r w a kvs none none)=some (.ret (.two (.int d) a (.dic kvs))):=
   a9 (aJ (by rw[GZ (o:=.par a (.dic kvs)) (kvs:=kvs) (ks:=cw r w) rfl (sL rfl rfl),hk];rfl) rfl) (yD (GD (o:=.par a (.dic kvs)) (kvs:=kvs) (ks:=cw r w) rfl (sL rfl rfl) hk) rfl)
  show uK 3 a (gE G (ρM bs rs r w a kvs none none))=_;rw[e];exact if_pos rfl
 |none=>
  obtain⟨vs,k1,ec,g1,gr,hd,hx⟩:=AS (bs:=bs) g h hw hG _ kvs (λ_ z=>z) gk;have hn:c7 k1 (cw r w)=none:=by
   cases z:c7 k1 (cw r w) with
   |none=>rfl
   |some v=>have:=gr.new r w v z hk;omega
  have hl:=g1.len g.n7;have hM:∀x∈vs,x<=jM 0 vs:=λx hx=>(mi 0 vs (λz=>by rw[z] at hx;cases hx)).2 x hx
  have h0:0<=jM 0 vs:=by
   by_cases z:ff rs r w=[]
   ·have:vs=[]:=by
     have:=ec 0;rw[z] at this;have e2:([],ρM bs rs r w 0 kvs none none)=(vs.map D.int,ρM bs rs r w 0 k1 none none):=Option.some.inj this;have e3:=(Prod.mk.inj e2).1;cases vs with
     |nil=>rfl
     |cons a b=>cases e3
    rw[this];exact Int.le_refl _
   ·obtain⟨t,ht⟩:=List.exists_mem_of_ne_nil _ z;obtain⟨d,_,hd0,hdm⟩:=hd t ht;have:=hM _ hdm;omega
  have gp:eT rs (k1++[(cw r w,jM 0 vs)]):=g1.put hn h hw h0 (λt ht=>by
   obtain⟨d,e1,_,hdm⟩:=hd t ht;exact⟨d,e1,by have:=hM _ hdm;omega⟩) (by
    by_cases z:vs=[]
    ·exact .inl (by rw[z];rfl)
    ·exact .inr (hx _ (mi 0 vs z).1))
  have gv:c7 (k1++[(cw r w,jM 0 vs)]) (cw r w)=some (jM 0 vs):=by rw[ml hn,if_pos rfl]
  refine⟨jM 0 vs,k1++[(cw r w,jM 0 vs)],ER rfl rfl λa=>?_,gp,⟨λk v z=>?_,λa b v z z'=>?_⟩,gv⟩
  ·have hst:=vZ (bs:=bs) (w:=w) h g.n7 (g.at h).2.1;have cm:p3 [5] (jf (ak cX [(a5 0),(a5 1),(a5 2)])) (aW 5) (vo aK (ir 3 G [(a5 0),(a8 dIx (a5 5) (eC (.int 1))),(a8 dIx (a5 5) (eC (.int 2)))] []) (eC (.int 1))) (ρM bs rs r w a kvs none none)=some (.lst (vs.map D.int),ρM bs rs r w a k1 none none):=by
    unfold p3;rw[ig (aU rfl rfl rfl hst) rfl];dsimp only;rw[if_pos ⟨by rw[length_map];exact le_trans (Bh g h) (by decide),rfl⟩,ec a]
    rfl
   have s1:mC 4 (p3 [5] (jf (ak cX [(a5 0),(a5 1),(a5 2)])) (aW 5) (vo aK (ir 3 G [(a5 0),(a8 dIx (a5 5) (eC (.int 1))),(a8 dIx (a5 5) (eC (.int 2)))] []) (eC (.int 1)))) (ρM bs rs r w a kvs none none)=some (.next (ρM bs rs r w a k1 (some (.sh (.lst (vs.map D.int)))) none)):=by
    unfold mC;rw[cm];rfl
   have mx:l5 (rf 0) (a5 4) (ρM bs rs r w a k1 (some (.sh (.lst (vs.map D.int)))) none)=okI (jM 0 vs):=ud rfl (by show(intsOf (vs.map D.int)).bind _=_;rw[lE];rfl)
   have s2:=HC (o:=.par a (.dic k1)) (ks:=cw r w) (i:=3) (gk:=aD [(a5 1),(a5 2)]) (ρ:=ρM bs rs r w a k1 (some (.sh (.lst (vs.map D.int)))) none) rfl (sL rfl rfl) mx (Nat.lt_of_le_of_lt hl (by decide))
   rw[DB hn] at s2;have e:gE G (ρM bs rs r w a kvs none none)=some (.ret (.two (.int (jM 0 vs)) a (.dic (k1++[(cw r w,jM 0 vs)])))):=
    a9 (gG (by rw[GZ (o:=.par a (.dic kvs)) (kvs:=kvs) (ks:=cw r w) rfl (sL rfl rfl),hk];rfl) (a9 s1 (cI s2))) (yD (GD (o:=.par a (.dic (k1++[(cw r w,jM 0 vs)]))) (ks:=cw r w) rfl (sL rfl rfl) gv) rfl)
   show uK 3 a (gE G (ρM bs rs r w a kvs none none))=_;rw[e];exact if_pos rfl
  ·have z1:=gr.ext k v z;rw[ml hn,if_neg λy=>by rw[y,hk] at z;cases z]
   exact z1
  ·rw[ml hn] at z;by_cases c:cw a b=cw r w
   ·obtain⟨rfl,rfl⟩:=qR c;exact le_refl _
   ·rw[if_neg c] at z;have:=gr.new a b v z z';omega
theorem p0(g:vR rs):∀m:Nat,∀(r w:Nat)(kvs:Tb),r<rs.length->w<128->9<m+(ao rs r).rk->eT rs kvs->∃(d:Int)(kvs':Tb),(Nat.rec (motive:=λ_=>MF) (λ_ _ _=>none) (λ_ G=>CL 3 4 6 (gE G)) m:MF) (.dic kvs) [aQ bs rs,.int r,.int w] []=some (.int d,.dic kvs')/\eT rs kvs'/\ku rs (ao rs r).rk kvs kvs'/\c7 kvs' (cw r w)=some d
 |0,r,w,kvs,h,_,hm,_=>by have:=(g.at h).1;omega
 |m+1,r,w,kvs,h,hw,hm,gk=>vd g h hw (λr' w' k' h' hw' hlt gk'=>p0 g m r' w' k' h' hw' (by omega) gk') gk
theorem zr(g:vR rs):∃(d:Int)(kvs:Tb),gH (.dic []) [aQ bs rs,.int 0,.int 0] []=some (.int d,.dic kvs)/\eT rs kvs/\c7 kvs (cw 0 0)=some d:=by
 obtain⟨d,kvs,e,gk,_,h⟩:=p0 (bs:=bs) g 12 0 0 [] g.n1 (by decide) (by omega) ⟨λ_ h=>(nomatch h),.nil⟩
 exact⟨d,kvs,e,gk,h⟩
end
section
variable{bs:List Bx}{rs:List Rw}{u:List Fr}{top:Fr}{cs:List Int}
def y9(bs:List Bx)(rs:List Rw)(f:Fr)(cs:List Int):Prop:=∀q x y t,(ao rs f.row).pl[f.place]?=some q->q.1=.anew x y t->1<=f.turn->f.turn<=szB bs y+1->f.hand.getD 0 0=cs.getD (fstB bs t) 0
theorem D5{dd:Deed}(ok:dd.Ok bs){turn:Nat}{vs hand:List Int}(h:rC bs dd turn hand)(ht:turn<(c4 bs dd).length):
  ((bJ bs dd turn vs hand).2.2<(c4 bs dd).length->rC bs dd (bJ bs dd turn vs hand).2.2 (bJ bs dd turn vs hand).2.1)/\(bJ bs dd turn vs hand).1.length=vs.length:=by
 cases dd with
 |put x ns=>exact⟨λ_=>h,by show(vs.set _ _).length=_;rw[length_set]⟩
 |copy x y=>exact⟨λ_=>h,by show(vs.set _ _).length=_;rw[length_set]⟩
 |tick x=>exact⟨λ_=>h,by show(vs.set _ _).length=_;rw[length_set]⟩
 |still n=>exact⟨λ_=>h,rfl⟩
 |non x=>exact⟨λ_=>h,rfl⟩
 |iz x y n=>exact⟨λ_=>h,rfl⟩
 |most x y n=>exact⟨λ_=>h,rfl⟩
 |grow x n=>
  have h:hand.length=min turn (szB bs x):=h;rw[hU] at ht ⊢;dsimp only at ht ⊢;unfold bJ;dsimp only;by_cases c:turn<szB bs x
  ·rw[if_pos c];refine⟨λ_=>?_,rfl⟩;show(hand++[_]).length=min (turn+1) (szB bs x);rw[length_append,length_singleton];omega
  ·rw[if_neg c];refine⟨λz=>?_,by rw[length_set]⟩
   have z:turn+1<2 * szB bs x:=z;rw[if_neg (by omega)]
   show hand.length=min (turn+1) (szB bs x);omega
 |anew x y t=>
  have h:hand.length=min turn (szB bs y+1):=h;have hxy:szB bs y=szB bs x:=ok.2.2.2.2.2.2.1;rw[hU] at ht ⊢;dsimp only at ht ⊢;unfold bJ;dsimp only;by_cases c:turn<szB bs y+1
  ·rw[if_pos c];refine⟨λ_=>?_,rfl⟩;show(hand++[_]).length=min (turn+1) (szB bs y+1);rw[length_append,length_singleton];omega
  ·rw[if_neg c];by_cases c2:szB bs y+1<turn
   ·rw[if_pos c2];refine⟨λz=>?_,by rw[length_set]⟩
    have z:turn+1<szB bs y+2+szB bs x:=z;rw[if_neg (by omega)]
    show hand.length=min (turn+1) (szB bs y+1);omega
   ·rw[if_neg c2];by_cases c3:vs.getD (fstB bs t) 0=hand.getD 0 0
    ·rw[if_pos c3];refine⟨λ_=>?_,rfl⟩;show hand.length=min (turn+1) (szB bs y+1);omega
    ·rw[if_neg c3];refine⟨λ_=>?_,rfl⟩;show 0=min 0 (szB bs y+1);omega
theorem CG{l:List Int}{x:Int}(h:0<l.length):(l++[x]).getD 0 0=l.getD 0 0:=by
 cases l with
 |nil=>cases h
 |cons a l=>rfl
theorem jH{f:Fr}{q:Pl}(hpq:(ao rs f.row).pl[f.place]?=some q)(h:∀x y t,q.1≠.anew x y t):y9 bs rs f cs:=λq' x y t e1 e2=>by rw[hpq] at e1;cases e1;exact(h x y t e2).elim
theorem He{f:Fr}(h:f.turn=0):y9 bs rs f cs:=λq x y t _ _ e=>by omega
theorem CV(hb:eU bs){q:Pl}(ok:q.1.Ok bs)(hpq:(ao rs top.row).pl[top.place]?=some q)(h:rC bs q.1 top.turn top.hand):
  ((bJ bs q.1 top.turn cs top.hand).2.2=top.turn+1/\(y9 bs rs top cs->y9 bs rs ⟨top.row,top.place,(bJ bs q.1 top.turn cs top.hand).2.2,(bJ bs q.1 top.turn cs top.hand).2.1⟩ (bJ bs q.1 top.turn cs top.hand).1))\/
  ((bJ bs q.1 top.turn cs top.hand).2.2=0/\¬y9 bs rs top cs/\top.turn<=3):=by
 obtain⟨dd,wd⟩:=q;cases dd with
 |put x ns=>exact .inl ⟨rfl,λ_=>jH (q:=(.put x ns,wd)) hpq λ_ _ _=>Deed.noConfusion⟩
 |copy x y=>exact .inl ⟨rfl,λ_=>jH (q:=(.copy x y,wd)) hpq λ_ _ _=>Deed.noConfusion⟩
 |tick x=>exact .inl ⟨rfl,λ_=>jH (q:=(.tick x,wd)) hpq λ_ _ _=>Deed.noConfusion⟩
 |still n=>exact .inl ⟨rfl,λ_=>jH (q:=(.still n,wd)) hpq λ_ _ _=>Deed.noConfusion⟩
 |non x=>exact .inl ⟨rfl,λ_=>jH (q:=(.non x,wd)) hpq λ_ _ _=>Deed.noConfusion⟩
 |iz x y n=>exact .inl ⟨rfl,λ_=>jH (q:=(.iz x y n,wd)) hpq λ_ _ _=>Deed.noConfusion⟩
 |most x y n=>exact .inl ⟨rfl,λ_=>jH (q:=(.most x y n,wd)) hpq λ_ _ _=>Deed.noConfusion⟩
 |grow x n=>
  refine .inl ⟨?_,λ_=>jH (q:=(.grow x n,wd)) hpq λ_ _ _=>Deed.noConfusion⟩;unfold bJ;dsimp only;split <;> rfl
 |anew x y t=>
  have h:top.hand.length=min top.turn (szB bs y+1):=h;have hy:=dX hb (show y<bs.length from ok.2.1);have uniq:∀{q':Pl}{x' y' t'},(ao rs top.row).pl[top.place]?=some q'->q'.1=.anew x' y' t'->x'=x/\y'=y/\t'=t:=λ{q' x' y' t'} e1 e2=>by
   rw[hpq] at e1;cases e1;cases e2;exact⟨rfl,rfl,rfl⟩
  by_cases c:top.turn<szB bs y+1
  ·have e:bJ bs (.anew x y t) top.turn cs top.hand=(cs,top.hand++[cs.getD (if top.turn=0 then fstB bs t else fstB bs y+(top.turn - 1)) 0],top.turn+1):=by unfold bJ;dsimp only;rw[if_pos c]
   dsimp only;rw[e];refine .inl ⟨rfl,λca q' x' y' t' e1 e2 _ _=>?_⟩;obtain⟨rfl,rfl,rfl⟩:=uniq e1 e2;show(top.hand++[_]).getD 0 0=_;by_cases c0:top.turn=0
   ·have:top.hand=[]:=List.length_eq_zero_iff.mp (by omega)
    rw[this,if_pos c0];rfl
   ·rw[CG (by omega)]
    exact ca q' _ _ _ e1 e2 (by omega) (by omega)
  ·by_cases c2:szB bs y+1<top.turn
   ·have e:bJ bs (.anew x y t) top.turn cs top.hand=(cs.set (fstB bs x+(top.turn - (szB bs y+2))) (top.hand.getD (top.turn - (szB bs y+1)) 0),if top.turn+1=2 * szB bs y+2 then[] else top.hand,top.turn+1):=by unfold bJ;dsimp only;rw[if_neg c,if_pos c2]
    dsimp only;rw[e];refine .inl ⟨rfl,λca q' x' y' t' e1 e2 h1 h2=>?_⟩;obtain⟨rfl,rfl,rfl⟩:=uniq e1 e2;have h2:top.turn+1<=szB bs y'+1:=h2;omega
   ·by_cases c3:cs.getD (fstB bs t) 0=top.hand.getD 0 0
    ·have e:bJ bs (.anew x y t) top.turn cs top.hand=(cs,top.hand,top.turn+1):=by unfold bJ;dsimp only;rw[if_neg c,if_neg c2,if_pos c3]
     dsimp only;rw[e];refine .inl ⟨rfl,λca q' x' y' t' e1 e2 h1 h2=>?_⟩;obtain⟨rfl,rfl,rfl⟩:=uniq e1 e2;have h2:top.turn+1<=szB bs y'+1:=h2;omega
    ·have e:bJ bs (.anew x y t) top.turn cs top.hand=(cs,[],0):=by unfold bJ;dsimp only;rw[if_neg c,if_neg c2,if_neg c3]
     dsimp only;rw[e];exact .inr ⟨rfl,λca=>c3 (ca _ x y t hpq rfl (by omega) (by omega)).symm,by omega⟩
end
def dc(sh:Nat)(r:Rw):Rw:=⟨r.nm,r.rk,r.pl.map λq=>(q.1,if r.rk=0 then q.2 ||| sh else 0)⟩
section
variable{bs:List Bx}{rs:List Rw}{sh:Nat}
abbrev ρB(bs:List Bx)(rs:List Rw)(sh:Nat)(l:List Rw)(e3 e4 e5:Option S):MEnv:=[some (.sh (aQ bs rs)),some (.sh (.int sh)),some (.own (.lst (l.map Rw.d))),e3,e4,e5]
theorem Fe{r:Rw}(hl:r.pl.length<=12){l:List Rw}(hl7:l.length<8)(e4 e5:Option S):∃e4',oj (ρB bs rs sh l (some (.sh r.d)) e4 e5)=some (.next (ρB bs rs sh (l++[dc sh r]) (some (.sh r.d)) e4' e5)):=by
 have c1:cR [5] (jf (a8 dIx (a5 3) (eC (.int 2)))) (aW 5) fo (aD [(a8 dIx (a5 5) (eC (.int 0))),(eC (.int 0))]) (ρB bs rs sh l (some (.sh r.d)) e4 e5)=okL (r.pl.map λq=>Aq (q.1,0)):=
  ji r.pl Aq _ (ig (a6 rfl rfl je) rfl) (le_trans hl (by decide)) λq _=>⟨_,rfl,_,l6 (a6 rfl rfl bU) rfl,rfl⟩
 have c2:∀e4:Option S,cR [5] (jf (a8 dIx (a5 3) (eC (.int 2)))) (aW 5) fo (aD [(a8 dIx (a5 5) (eC (.int 0))),(a8 vA (a8 dIx (a5 5) (eC (.int 1))) (a5 1))]) (ρB bs rs sh l (some (.sh r.d)) e4 e5)=okL (r.pl.map λq=>Aq (q.1,q.2 ||| sh)):=λe4=>
  ji r.pl Aq _ (ig (a6 rfl rfl je) rfl) (le_trans hl (by decide)) λq _=>⟨_,rfl,_,l6 (a6 rfl rfl bU) (a6 (a6 rfl rfl cg) rfl (vK q.2 sh)),rfl⟩
 have h8:(l.map Rw.d).length<lim:=by rw[length_map];exact lt_of_lt_of_le hl7 (by decide)
 by_cases c:r.rk=0
 ·have e:dc sh r=⟨r.nm,r.rk,r.pl.map λq=>(q.1,q.2 ||| sh)⟩:=by unfold dc;simp only[if_pos c]
  refine⟨some (.sh (.lst (r.pl.map λq=>Aq (q.1,q.2 ||| sh)))),(a9 (ay c1) (a9 (gG (a6 (a6 rfl rfl cg) rfl (zQ (by rw[c];rfl))) (ay (c2 _))) (cI (fq (ds:=l.map Rw.d) (s:=.sh (dc sh r).d) rfl (aU (a6 rfl rfl bU) (a6 rfl rfl cg) (bL rfl rfl) (by rw[e];unfold Rw.d;dsimp only;rw[map_map];rfl)) h8)))).trans ?_⟩
  unfold ρB;rw[map_append (l₁:=l)];rfl
 ·have e:dc sh r=⟨r.nm,r.rk,r.pl.map λq=>(q.1,0)⟩:=by unfold dc;simp only[if_neg c]
  refine⟨some (.sh (.lst (r.pl.map λq=>Aq (q.1,0)))),(a9 (ay c1) (a9 (aJ (a6 (a6 rfl rfl cg) rfl (zR (by omega))) rfl) (cI (fq (ds:=l.map Rw.d) (s:=.sh (dc sh r).d) rfl (aU (a6 rfl rfl bU) (a6 rfl rfl cg) (bL rfl rfl) (by rw[e];unfold Rw.d;dsimp only;rw[map_map];rfl)) h8)))).trans ?_⟩
  unfold ρB;rw[map_append (l₁:=l)];rfl
theorem GA(h7:rs.length<=7)(hl:∀r∈rs,r.pl.length<=12):kP [aQ bs rs,.int sh]=okD (aQ bs (rs.map (dc sh))):=by
 obtain⟨ρ',e,e3,e4,e5,rfl⟩:=ki (bd:=aW 3) (body:=oj) Rw.d (λq ρ=>∃e3 e4 e5:Option S,ρ=ρB bs rs sh (q.map (dc sh)) e3 e4 e5) rs (ρ:=ρB bs rs sh [] none none none) ⟨none,none,none,rfl⟩ (by
  rintro q r post ρ hq ⟨e3,e4,e5,rfl⟩
  have hr:r∈rs:=by rw[hq];simp
  have hlen:q.length<7:=by have:=congrArg List.length hq;rw[length_append,length_cons] at this;omega
  obtain⟨e4',z⟩:=Fe (bs:=bs) (rs:=rs) (sh:=sh) (hl r hr) (l:=q.map (dc sh)) (by rw[length_map];omega) e4 e5
  exact⟨_,_,rfl,.inl z,_,e4',e5,by rw[map_append];rfl⟩)
 exact aH rfl (a9 (ay rfl) (a9 (lL (ig (a6 rfl rfl cg) rfl) e) (cI (aN (l6 (s1:=.sh (cK bs)) (s2:=.sh (.tup ((rs.map (dc sh)).map Rw.d))) (a6 rfl rfl bU) (bL rfl rfl))))))
end
def Rk(rs:List Rw)(s:Nat):List Int:=((List.range (rs.length - 1)).filter λk=>!s.testBit (1+k)).map λk=>((ao rs (1+k)).rk:Int)
def Fo(a:Int)(l:List Int):List Int:=l.filter λx=>decide (a<x)
def cnt(rs:List Rw)(a s:Nat):Nat:=(ka (Fo a (Rk rs s))).length
theorem kx{a x:Int}{l:List Int}:x∈Fo a l↔x∈l/\a<x:=by unfold Fo;rw[mem_filter,decide_eq_true_eq]
theorem zb{l m:List Int}(h:∀x∈l,x∈m):(ka l).length<=(ka m).length:=List.Nodup.length_le_of_subset gD λx hx=>dJ.mpr (h x (dJ.mp hx))
theorem Ed:∀{l:List Int},l≠[]->∃b∈l,∀c∈l,b<=c
 |[],h=>(h rfl).elim
 |[a],_=>⟨a,by simp,λc hc=>by rw[mem_singleton.mp hc];exact Int.le_refl _⟩
 |a::b::l,_=>by
  obtain⟨m,h1,h2⟩:=Ed (l:=b::l) (by simp)
  by_cases c:a<=m
  ·refine⟨a,mem_cons_self,λx hx=>?_⟩;rcases mem_cons.mp hx with rfl|hx
   ·exact Int.le_refl _
   ·exact Int.le_trans c (h2 x hx)
  ·refine⟨m,mem_cons_of_mem _ h1,λx hx=>?_⟩;rcases mem_cons.mp hx with rfl|hx
   ·omega
   ·exact h2 x hx
section
variable{rs:List Rw}
theorem qh{s:Nat}{x:Int}:x∈Rk rs s↔∃k,1<=k/\k<rs.length/\s.testBit k=false/\x=((ao rs k).rk:Int):=by
 unfold Rk;rw[mem_map];constructor
 ·rintro ⟨k,hk,rfl⟩
  obtain⟨h1,h2⟩:=mem_filter.mp hk;have:=mem_range.mp h1;exact⟨1+k,by omega,by omega,by simpa using h2,rfl⟩
 ·rintro ⟨k,h1,h2,h3,rfl⟩
  have e:1+(k - 1)=k:=by omega
  exact⟨k - 1,mem_filter.mpr ⟨mem_range.mpr (by omega),by rw[e,h3];rfl⟩,by rw[e]⟩
theorem F5{a s k:Nat}(h1:1<=k)(h2:k<rs.length)(h3:s.testBit k=false)(h4:a<(ao rs k).rk):cnt rs (ao rs k).rk s+1<=cnt rs a s:=by
 have nd:(((ao rs k).rk:Int)::ka (Fo ((ao rs k).rk:Int) (Rk rs s))).Nodup:=nodup_cons.mpr ⟨λz=>by have:=(kx.mp (dJ.mp z)).2;omega,gD⟩
 have:=List.Nodup.length_le_of_subset nd (l₂:=ka (Fo (a:Int) (Rk rs s))) λx hx=>dJ.mpr (kx.mpr (by
  rcases mem_cons.mp hx with rfl|hx
  ·exact⟨qh.mpr ⟨k,h1,h2,h3,rfl⟩,by omega⟩
  ·have:=kx.mp (dJ.mp hx);exact⟨this.1,by have:=this.2;omega⟩))
 rw[length_cons] at this;exact this
theorem F6{a s:Nat}:cnt rs a s=0\/∃k,1<=k/\k<rs.length/\s.testBit k=false/\a<(ao rs k).rk/\cnt rs a s<=cnt rs (ao rs k).rk s+1:=by
 by_cases c:Fo (a:Int) (Rk rs s)=[]
 ·left;unfold cnt;rw[c];rfl
 ·right;obtain⟨b,hb,hm⟩:=Ed c;obtain⟨hb1,hb2⟩:=kx.mp hb;obtain⟨k,h1,h2,h3,rfl⟩:=qh.mp hb1;refine⟨k,h1,h2,h3,by omega,?_⟩
  have:=List.Nodup.length_le_of_subset (gD (ns:=Fo (a:Int) (Rk rs s))) (l₂:=((ao rs k).rk:Int)::ka (Fo ((ao rs k).rk:Int) (Rk rs s))) λx hx=>by
   have hx:=dJ.mp hx;by_cases e:x=((ao rs k).rk:Int)
   ·rw[e];exact mem_cons_self
   ·exact mem_cons_of_mem _ (dJ.mpr (kx.mpr ⟨(kx.mp hx).1,by have:=hm x hx;omega⟩))
  rw[length_cons] at this;exact this
theorem F4{a s:Nat}:cnt rs a s<=cnt rs a 0:=zb λx hx=>by
 obtain⟨h1,h2⟩:=kx.mp hx;obtain⟨k,k1,k2,k3,rfl⟩:=qh.mp h1;exact kx.mpr ⟨qh.mpr ⟨k,k1,k2,by simp,rfl⟩,h2⟩
theorem jS{r w:Nat}{t:T3}:t∈ff rs r w↔∃p k,p<cntN rs r/\1<=k/\k<rs.length/\t=(p,k,w ||| wdAt rs r p)/\(ao rs r).rk<(ao rs k).rk/\(w ||| wdAt rs r p).testBit k=false:=by
 unfold ff;rw[List.mem_flatMap];constructor
 ·rintro ⟨p,hp,ht⟩
  unfold atN ik at ht;obtain⟨k,hk,rfl⟩:=mem_map.mp ht;obtain⟨h1,h2⟩:=mem_filter.mp hk;have h1:=mem_range.mp h1;unfold Gj at h2;obtain⟨h3,h4⟩:=(Bool.and_eq_true _ _).mp h2;exact⟨p,1+k,mem_range.mp hp,by omega,by omega,rfl,of_decide_eq_true h3,by simpa using h4⟩
 ·rintro ⟨p,k,hp,h1,h2,rfl,h3,h4⟩
  refine⟨p,mem_range.mpr hp,?_⟩;unfold atN ik;have e:1+(k - 1)=k:=by omega
  refine mem_map.mpr ⟨k - 1,mem_filter.mpr ⟨mem_range.mpr (by omega),?_⟩,by rw[e]⟩
  unfold Gj;rw[e,decide_eq_true h3,h4];rfl
structure yc(rs:List Rw):Prop where
 w0:∀r p,1<=r->wdAt rs r p=0
 k0:(ao rs 0).rk=0
 k1:∀k,1<=k->k<rs.length->1<=(ao rs k).rk
 ln:∀k,k<rs.length->1<=(ao rs k).pl.length
theorem vD(B:yc rs){r:Nat}(h:r<rs.length):0<cntN rs r:=by have:=B.ln r h;unfold cntN;split <;> omega
theorem Fn{r p:Nat}(h:(ao rs r).pl.length<=p):wdAt rs r p=0:=by unfold wdAt;rw[getElem?_eq_none h];rfl
theorem kQ(g:vR rs)(B:yc rs){kvs:Tb}(gk:eT rs kvs):∀(m r w:Nat)(v:Int),9<m+(ao rs r).rk->1<=r->c7 kvs (cw r w)=some v->v=(cnt rs (ao rs r).rk w:Int)
 |0,r,w,v,hm,hr,hv=>by have:=(g.at (gk.get hv).1).1;omega
 |m+1,r,w,v,hm,hr,hv=>by
  obtain⟨hl,_,h0,hs⟩:=gk.get hv;have ww:∀p,w ||| wdAt rs r p=w:=λp=>by rw[B.w0 r p hr,Nat.or_zero]
  have le:v<=(cnt rs (ao rs r).rk w:Int):=by
   rcases gk.tight hv with z|⟨t,ht,hd⟩
   ·omega
   ·obtain⟨p,k,hp,k1,k2,rfl,k3,k4⟩:=jS.mp ht;rw[ww] at k4 hd;have e:=kQ g B gk m k w _ (by omega) k1 hd
    have:=F5 k1 k2 k4 k3;omega
  have ge:(cnt rs (ao rs r).rk w:Int)<=v:=by
   rcases F6 (rs:=rs) (a:=(ao rs r).rk) (s:=w) with z|⟨k,k1,k2,k3,k4,k5⟩
   ·omega
   ·obtain⟨d',hd,hlt⟩:=hs (0,k,w ||| wdAt rs r 0) (jS.mpr ⟨0,k,vD B hl,k1,k2,rfl,k4,by rw[ww];exact k3⟩)
    rw[ww] at hd;have e:=kQ g B gk m k w _ (by omega) k1 hd
    omega
  omega
theorem zW(g:vR rs)(B:yc rs){kvs:Tb}(gk:eT rs kvs){v:Int}(hv:c7 kvs (cw 0 0)=some v):v=(cnt rs 0 0:Int):=by
 obtain⟨hl,_,h0,hs⟩:=gk.get hv;have le:v<=(cnt rs 0 0:Int):=by
  rcases gk.tight hv with z|⟨t,ht,hd⟩
  ·omega
  ·obtain⟨p,k,hp,k1,k2,rfl,k3,k4⟩:=jS.mp ht;have e:=kQ g B gk 10 k (0 ||| wdAt rs 0 p) (v - 1) (by omega) k1 hd
   have h1:=F5 (a:=0) k1 k2 k4 (by omega)
   have h2:=F4 (rs:=rs) (a:=0) (s:=0 ||| wdAt rs 0 p);omega
 have ge:(cnt rs 0 0:Int)<=v:=by
  rcases F6 (rs:=rs) (a:=0) (s:=0) with z|⟨k,k1,k2,k3,k4,k5⟩
  ·omega
  ·have we:(0:Nat) ||| wdAt rs 0 (ao rs 0).pl.length=0:=by rw[Fn (le_refl _)];rfl
   obtain⟨d',hd,hlt⟩:=hs ((ao rs 0).pl.length,k,0 ||| wdAt rs 0 (ao rs 0).pl.length) (jS.mpr ⟨_,k,by unfold cntN;rw[if_pos rfl];omega,k1,k2,rfl,by rw[B.k0];omega,by rw[we];exact k3⟩)
   have hd:c7 kvs (cw k (0 ||| wdAt rs 0 (ao rs 0).pl.length))=some d':=hd;rw[we] at hd;have e:=kQ g B gk 10 k 0 d' (by omega) k1 hd
   omega
 omega
theorem AV(B:yc rs):cnt rs 0 0=(ka ((rs.drop 1).map λr=>(r.rk:Int))).length:=by
 have iff:∀x:Int,x∈Fo ((0:Nat):Int) (Rk rs 0)↔x∈(rs.drop 1).map λr=>(r.rk:Int):=λx=>by
  rw[kx,qh,mem_map];constructor
  ·rintro ⟨⟨k,k1,k2,_,rfl⟩,_⟩
   refine⟨ao rs k,?_,rfl⟩;rw[←fU k2];exact List.mem_iff_getElem.mpr ⟨k - 1,by rw[length_drop];omega,by rw[getElem_drop];congr 1;omega⟩
  ·rintro ⟨r,hr,rfl⟩
   obtain⟨j,hj,rfl⟩:=List.mem_iff_getElem.mp hr;rw[length_drop] at hj;have e:(rs.drop 1)[j]'(by rw[length_drop];exact hj)=ao rs (1+j):=by rw[getElem_drop,fU]
   rw[e];exact⟨⟨1+j,by omega,by omega,by simp,rfl⟩,by have:=B.k1 (1+j) (by omega) (by omega);omega⟩
 exact Nat.le_antisymm (zb λx hx=>(iff x).mp hx) (zb λx hx=>(iff x).mpr hx)
end
theorem Ac{c:ME}{body:MC}{n:Nat}{ρ ρ2:MEnv}{o:Option oq}(h:c ρ=okB true)(hb:body ρ=some (.next ρ2))(h2:eB c body n ρ2=o):eB c body (n+1) ρ=o:=by
 unfold eB;rw[h];show(if true=true then(match body ρ with|some (.next ρ2)=>eB c body n ρ2|some (.cont ρ2)=>eB c body n ρ2|some (.brk ρ2)=>some (.next ρ2)|o=>o) else some (.next ρ))=o
 rw[if_pos rfl,hb];exact h2
theorem Ad{c:ME}{body:MC}{n:Nat}{ρ:MEnv}(h:c ρ=okB false):eB c body (n+1) ρ=some (.next ρ):=by
 unfold eB;rw[h];rfl
theorem qu{k:D->Option Int}:∀(l:List D)(b:D)(m:Int),(∀d∈l,∃n,k d=some n)->∃d,qw k b m l=some d/\(d=b\/d∈l)
 |[],b,m,_=>⟨b,rfl,.inl rfl⟩
 |x::l,b,m,h=>by
  obtain⟨n,hn⟩:=h x mem_cons_self;have hl:=λd hd=>h d (mem_cons_of_mem _ hd);unfold qw;rw[hn];dsimp only;split
  ·obtain⟨d,e,z⟩:=qu l x n hl;exact⟨d,e,.inr (z.elim (λe=>e▸mem_cons_self) (mem_cons_of_mem _))⟩
  ·obtain⟨d,e,z⟩:=qu l b m hl;exact⟨d,e,z.imp id (mem_cons_of_mem _)⟩
theorem G7{k:D->Option Int}{l:List D}(hne:l≠[])(h:∀d∈l,∃n,k d=some n):∃d∈l,wZ k l=some d:=by
 cases l with
 |nil=>exact(hne rfl).elim
 |cons x l=>
  obtain⟨n,hn⟩:=h x mem_cons_self;obtain⟨d,e,z⟩:=qu l x n λd hd=>h d (mem_cons_of_mem _ hd);refine⟨d,z.elim (λe=>e▸mem_cons_self) (mem_cons_of_mem _),?_⟩;unfold wZ;dsimp only;rw[hn];exact e
abbrev gKey:ME:=(D9 1 (aD [(a8 dIx (a5 0) (eC (.int 1))),(a8 dIx (a5 0) (eC (.int 2)))]))
theorem K4{kvs:Tb}{a:Nat}{t:T3}{v:Int}(h:c7 kvs (cw t.2.1 t.2.2)=some v):iu gKey (.par a (.dic kvs)) (t3D t)=some v:=by
 have e:gKey [some (.sh (t3D t)),some (.own (.par a (.dic kvs)))]=okI v:=GD (o:=.par a (.dic kvs)) (kvs:=kvs) (ks:=cw t.2.1 t.2.2) rfl (l6 (s1:=.sh (.int t.2.1)) (s2:=.sh (.int t.2.2)) (a6 (s:=.sh (t3D t)) rfl rfl cg) (a6 (s:=.sh (t3D t)) rfl rfl je)) h;unfold iu;rw[e]
theorem Et{kvs:Tb}{a:Nat}:iu gKey (.par a (.dic kvs))=iu gKey (.par 0 (.dic kvs)):=rfl
inductive pf(rs:List Rw):Nat->Nat->List (Nat×Nat)->Prop
 |last {r w:Nat}:r<rs.length->pf rs r w [(r,0)]
 |step {r w p k:Nat} {l:List (Nat×Nat)}:r<rs.length->p<cntN rs r->1<=k->(ao rs r).rk<(ao rs k).rk->(w ||| wdAt rs r p).testBit k=false->pf rs k (w ||| wdAt rs r p) l->pf rs r w ((r,p)::l)
def std(x:Nat×Nat):D:=.tup [.int x.1,.int x.2,.int 0]
section
variable{bs:List Bx}{rs:List Rw}{kvs:Tb}
abbrev ρH(bs:List Bx)(rs:List Rw)(kvs:Tb)(a:Nat)(acc:List (Nat×Nat))(r w:Nat)(e5:Option S):MEnv:=[some (.sh (aQ bs rs)),some (.own (.par a (.dic kvs))),some (.own (.lst (acc.map std))),some (.sh (.int r)),some (.sh (.int w)),e5]
theorem oU(g:vR rs)(gk:eT rs kvs):∀(n r w:Nat)(v:Int),c7 kvs (cw r w)=some v->v.toNat<n->
  ∃(l:List (Nat×Nat))(r' w':Nat),pf rs r w (l++[(r',0)])/\l.length<=n/\∀(a:Nat)(acc:List (Nat×Nat))(e5:Option S),acc.length+n<=6000->∃e5':Option S,eB (a8 sE (D9 1 (aD [(a5 3),(a5 4)])) (eC (.int 0))) mZ n (ρH bs rs kvs a acc r w e5)=some (.next (ρH bs rs kvs a (acc++l) r' w' e5'))
 |0,_,_,_,_,h=>by omega
 |n+1,r,w,v,hv,hn=>by
  obtain⟨hr,hw,h0,hs⟩:=gk.get hv;have hat:∀(a:Nat)(acc:List (Nat×Nat))(e5:Option S),D9 1 (aD [(a5 3),(a5 4)]) (ρH bs rs kvs a acc r w e5)=okI v:=λa acc e5=>GD (o:=.par a (.dic kvs)) (kvs:=kvs) (ks:=cw r w) rfl (sL rfl rfl) hv;by_cases c:v=0
  ·refine⟨[],r,w,.last hr,zero_le _,λa acc e5 _=>⟨e5,?_⟩⟩;rw[append_nil];exact Ad (a6 (hat a acc e5) rfl (xq (by omega)))
  ·have hne:(ff rs r w).map t3D≠[]:=by
    rcases gk.tight hv with z|⟨t,ht,_⟩
    ·exact(c z).elim
    ·intro z;rw[List.map_eq_nil_iff.mp z] at ht;cases ht
   obtain⟨d,hd,hmax⟩:=G7 (k:=iu gKey (.par 0 (.dic kvs))) hne λd hd=>by
    obtain⟨t,ht,rfl⟩:=mem_map.mp hd;obtain⟨d',e,_⟩:=hs t ht;exact⟨d',K4 e⟩
   obtain⟨t,ht,rfl⟩:=mem_map.mp hd;obtain⟨v',hv',hlt⟩:=hs t ht;obtain⟨p,k,hp,k1,k2,et,k3,k4⟩:=jS.mp ht;have et1:t.1=p:=by rw[et]
   have et2:t.2.1=k:=by rw[et]
   have et3:t.2.2=w ||| wdAt rs r p:=by rw[et]
   rw[et2,et3] at hv';have v0:=(gk.get hv').2.2.1;obtain⟨l,r',w',hch,hll,hwh⟩:=oU g gk n k (w ||| wdAt rs r p) v' hv' (by omega)
   refine⟨(r,p)::l,r',w',.step hr hp k1 k3 k4 hch,by rw[length_cons];omega,λa acc e5 ha=>?_⟩
   obtain⟨e5',hwh⟩:=hwh a (acc++[(r,p)]) (some (.sh (t3D t))) (by rw[length_append,length_singleton];omega)
   refine⟨e5',?_⟩;have em:xO 1 (ak cX [(a5 0),(a5 3),(a5 4)]) gKey (ρH bs rs kvs a acc r w e5)=okD (t3D t):=by
    unfold xO;rw[aU rfl rfl rfl (vZ (bs:=bs) (w:=w) hr g.n7 (g.at hr).2.1)];show(wZ (iu gKey (.par a (.dic kvs))) ((ff rs r w).map t3D)).bind okD=_;rw[Et,hmax];rfl
   refine Ac (a6 (hat a acc e5) rfl (xp (by omega))) (a9 (ay em) (a9 (fq (ds:=acc.map std) (s:=.sh (std (r,p))) rfl (aU rfl (a6 rfl rfl (show dIx (t3D t) (.int 0)=okI (p:Nat) from by rw[←et1];exact bU)) rfl rfl) (by rw[length_map];exact lt_of_lt_of_le (by omega:acc.length<6000) (by decide)))
    (a9 (ay (a6 rfl rfl (show dIx (t3D t) (.int 1)=okI (k:Nat) from by rw[←et2];exact cg))) (ay (a6 rfl rfl (show dIx (t3D t) (.int 2)=okI ((w ||| wdAt rs r p:Nat):Int) from by rw[←et3];exact je)))))) ?_
   have e2:acc++(r,p)::l=acc++[(r,p)]++l:=by simp
   rw[e2,←hwh];unfold ρH;rw[map_append];rfl
theorem Bk(g:vR rs)(gk:eT rs kvs){v:Int}(hv:c7 kvs (cw 0 0)=some v)(h5:v.toNat<5000):∃(l:List (Nat×Nat)),pf rs 0 0 l/\bT (.dic kvs) [aQ bs rs] []=some (.lst (l.map std),.dic kvs):=by
 obtain⟨l,r',w',hch,hll,hw⟩:=oU (bs:=bs) g gk 5000 0 0 v hv h5;refine⟨l++[(r',0)],hch,ER rfl rfl λa=>?_⟩;obtain⟨e5,e⟩:=hw a [] none (by decide)
 rw[nil_append] at e;show uK 1 a (gF (ky 6 a (.dic kvs) [aQ bs rs] []))=_;have z:gF (ky 6 a (.dic kvs) [aQ bs rs] [])=some (.ret (.two (.lst ((l++[(r',0)]).map std)) a (.dic kvs))):=by
  refine a9 (ay rfl) (a9 (ay rfl) (a9 (ay rfl) (a9 e (cI (yD (s:=.own (.lst ((l++[(r',0)]).map std))) (a6 (s:=.sh (.lst (l.map std))) (t:=.own (.lst [std (r',0)])) rfl (bL (aU rfl rfl rfl rfl) rfl) ?_) rfl)))));rw[map_append];exact tW (by rw[length_map];show l.length+1<=_;omega)
 rw[z];exact if_pos rfl
end
section
variable{bs:List Bx}{rs:List Rw}{u:List Fr}{f:Fr}{cs:List Int}
theorem An{k:Nat}(h:k<rs.length):ao rs k∈rs:=by rw[←fU h];exact getElem_mem h
theorem FL(hb:eU bs){dd:Deed}(ok:dd.Ok bs):(c4 bs dd).length<=9:=by
 rw[hU];cases dd with
 |put x ns=>have:=dX hb ok.1;dsimp only;omega
 |copy x y=>have:=dX hb ok.1;dsimp only;omega
 |tick x=>dsimp only;omega
 |still n=>have:=ok;dsimp only;exact ok.2
 |non x=>dsimp only;omega
 |iz x y n=>dsimp only;omega
 |most x y n=>dsimp only;omega
 |grow x n=>have:=dX hb ok.1;dsimp only;omega
 |anew x y t=>have:=dX hb ok.1;have:=dX hb ok.2.1;dsimp only;omega
structure Jd(bs:List Bx)(rs:List Rw):Prop where
 hb:eU bs
 hr:∀r∈rs,∀q∈r.pl,q.1.Ok bs
theorem DX(pr:Jd bs rs)(hf:y8 bs rs f)(ca:y9 bs rs f cs)(hc:cs.length=l7 bs)(hu:u.length<=1000){p:Nat}(hp:f.place<p)(hp2:p<=(ao rs f.row).pl.length)(hp3:0<f.row->p<(ao rs f.row).pl.length):
  ∃(f':Fr)(cs':List Int),ia [aQ bs rs,cG (u++[f]),.tup (cs.map D.int)]=okD (stD (u++[f']) cs')/\y8 bs rs f'/\y9 bs rs f' cs'/\cs'.length=l7 bs/\f'.row=f.row/\f.turn<=8/\((f'.place=f.place/\f'.turn=f.turn+1)\/(f'.place=f.place+1/\f'.turn=0)):=by
 have hlt:f.place<(ao rs f.row).pl.length:=by omega
 obtain⟨q,hpq⟩:∃q,(ao rs f.row).pl[f.place]?=some q:=⟨_,getElem?_eq_getElem hlt⟩;have okq:q.1.Ok bs:=pr.hr _ (An hf.row) q (mem_of_getElem? hpq);obtain⟨ht,hh⟩:=hf.turn q hpq;have hh3:=Gi pr.hb okq hh;have h9:=FL pr.hb okq;have ha1:=D5 (vs:=cs) okq hh ht;rcases CV (cs:=cs) pr.hb okq hpq hh with⟨e,can⟩|⟨_,nc,_⟩
 ·rcases hav:bJ bs q.1 f.turn cs f.hand with⟨c2,h2,t2⟩;have te:=B9 (bs:=bs) (rs:=rs) (u:=u) (top:=f) pr.hb okq hf.row hpq ht hc (by omega) (EG okq hh ht) hu hav
  rw[hav] at e can ha1;dsimp only at e can ha1;subst e;by_cases c1:f.turn+1<(c4 bs q.1).length
  ·rw[if_pos c1] at te;refine⟨_,_,te,⟨hf.row,hf.place,λq' hq'=>?_,λz=>?_,λz=>?_⟩,can ca,by rw[ha1.2,hc],rfl,by omega,.inl ⟨rfl,rfl⟩⟩
   ·have hq':(ao rs f.row).pl[f.place]?=some q':=hq';rw[hpq] at hq';cases hq';exact⟨c1,ha1.1 c1⟩
   ·have z:f.place=(ao rs f.row).pl.length:=z;omega
   ·have z:f.place=(ao rs f.row).pl.length:=z;omega
  ·rw[if_neg c1,if_neg (λz=>by have:=hp3 z.1;omega)] at te
   exact⟨_,_,te,xy pr.hb pr.hr hf.row (by omega),He rfl,by rw[ha1.2,hc],rfl,by omega,.inr ⟨rfl,rfl⟩⟩
 ·exact(nc ca).elim
abbrev ρR(bs:List Bx)(rs:List Rw)(sd:D)(p:List Fr)(cs:List Int)(ws:List Nat)(e5:Option S)(x:D)(e7:Option S):MEnv:=[some (.sh (aQ bs rs)),some (.sh sd),some (.sh (cG p)),some (.sh (.tup (cs.map D.int))),some (.own (.lst (ws.map intD))),e5,some (.sh x),e7]
abbrev cW:ME:=(a8 (CT 1) (bx (a8 dIx (a5 2) (eC (.int (-1)))) (some (eC (.int 1))) (some (eC (.int 3)))) (bx (a5 6) (some (eC (.int 1))) (some (eC (.int 3)))))
theorem F1{sd:D}{ws:List Nat}{e5 e7:Option S}{r p:Nat}:cW (ρR bs rs sd (u++[f]) cs ws e5 (std (r,p)) e7)=okB (!(decide (f.place=p) && decide (f.turn=0))):=by
 refine a6 (s:=.sh (.tup [.int f.place,.int f.turn])) (t:=.sh (.tup [.int p,.int 0])) ?_ rfl ?_
 ·unfold bx;rw[a6 rfl rfl (oy u f)];rfl
 ·show(kl (sD 1) [.int f.place,.int f.turn] [.int p,.int 0]).bind (λb=>okB (!b))=_;have e1:sD 1 (.int (f.place:Int)) (.int (p:Int))=some (decide (f.place=p)):=by
   show some (decide ((f.place:Int)=(p:Int)))=_;rw[show decide ((f.place:Int)=(p:Int))=decide (f.place=p) from decide_eq_decide.mpr (by omega)]
  have e2:sD 1 (.int (f.turn:Int)) (.int 0)=some (decide (f.turn=0)):=by
   show some (decide ((f.turn:Int)=(0:Int)))=_;rw[show decide ((f.turn:Int)=(0:Int))=decide (f.turn=0) from decide_eq_decide.mpr (by omega)]
  unfold kl;rw[e1];unfold kl;rw[e2];show okB (!(decide (f.place=p) && (decide (f.turn=0) && true)))=_;rw[Bool.and_true]
theorem vU(pr:Jd bs rs)(hu:u.length<=1000){sd:D}{e5:Option S}{r p:Nat}:∀(n:Nat)(f:Fr)(cs:List Int)(ws:List Nat)(e7:Option S),y8 bs rs f->y9 bs rs f cs->cs.length=l7 bs->f.place<=p->(f.place=p->f.turn=0)->p<=(ao rs f.row).pl.length->(0<f.row->p<(ao rs f.row).pl.length)->(p - f.place) * 20+10 - f.turn<n->ws.length+n<=100000->
  ∃(f':Fr)(cs':List Int)(m:Nat)(e7':Option S),eB cW pw n (ρR bs rs sd (u++[f]) cs ws e5 (std (r,p)) e7)=some (.next (ρR bs rs sd (u++[f']) cs' (ws++replicate m 0) e5 (std (r,p)) e7'))/\y8 bs rs f'/\f'.row=f.row/\f'.place=p/\cs'.length=l7 bs/\m<=n
 |0,_,_,_,_,_,_,_,_,_,_,_,h,_=>by omega
 |n+1,f,cs,ws,e7,hf,ca,hc,h1,h2,h3,h4,h5,h6=>by
  by_cases c:f.place=p
  ·refine⟨f,cs,0,e7,?_,hf,rfl,c,hc,zero_le _⟩;rw[List.replicate_zero,append_nil];refine Ad ?_;rw[F1,decide_eq_true c,decide_eq_true (h2 c)];rfl
  ·obtain⟨f1,cs1,e,hf1,ca1,hc1,hr1,t8,hor⟩:=DX (u:=u) pr hf ca hc hu (p:=p) (by omega) h3 h4
   obtain⟨f',cs',m,e7',ew,k1,k2,k3,k4,k5⟩:=vU pr hu (sd:=sd) (e5:=e5) (r:=r) (p:=p) n f1 cs1 (ws++[0]) (some (.sh (stD (u++[f1]) cs1))) hf1 ca1 hc1 (by omega) (λz=>by omega) (by rw[hr1];exact h3) (by rw[hr1];exact h4) (by
    rcases hor with⟨a,b⟩|⟨a,b⟩
    ·rw[a,b];omega
    ·rw[a,b];omega) (by rw[length_append,length_singleton];omega)
   refine⟨f',cs',m+1,e7',Ac (ρ2:=ρR bs rs sd (u++[f1]) cs1 (ws++[0]) e5 (std (r,p)) (some (.sh (stD (u++[f1]) cs1)))) ?_ ?_ ?_,k1,k2.trans hr1,k3,k4,by omega⟩
   ·rw[F1,decide_eq_false c];rfl
   ·refine(a9 (ay (aU rfl rfl rfl e)) (a9 (ay (a6 rfl rfl bU)) (a9 (ay (a6 rfl rfl cg)) (fq (ds:=ws.map intD) (s:=.sh (.int 0)) rfl rfl (by rw[length_map];exact lt_of_lt_of_le (by omega:ws.length<100000) (by decide)))))).trans ?_
    unfold ρR;rw[map_append (l₁:=ws)];rfl
   ·rw[ew,append_assoc];rfl
end
section
variable{bs:List Bx}{rs:List Rw}
def shutV(rs:List Rw)(p:List Fr):Nat:=p.foldl (λw f=>w ||| wdAt rs f.row f.place) 0
theorem pX(p:List Fr)(f:Fr):shutV rs (p++[f])=shutV rs p ||| wdAt rs f.row f.place:=by unfold shutV;rw[List.foldl_append];rfl
theorem yr{p:List Fr}(h:∀f∈p,f.row<rs.length):mm [aQ bs rs,cG p]=okI (shutV rs p:Nat):=by
 obtain⟨ρ',e,e3,rfl⟩:=ki (bd:=aW 3) (body:=y0) Fr.d (λq ρ=>∃e3:Option S,ρ=[some (.sh (aQ bs rs)),some (.sh (cG p)),some (.sh (.int (shutV rs q:Nat))),e3]) p
  (ρ:=[some (.sh (aQ bs rs)),some (.sh (cG p)),some (.sh (.int 0)),none]) ⟨none,rfl⟩ (by
  rintro q f post ρ hq ⟨e3,rfl⟩
  have hf:=h f (by rw[hq];simp)
  refine⟨_,_,rfl,.inl (ay (a6 rfl (aU rfl (a6 rfl rfl (Jm f)) (a6 rfl rfl (Kb f)) (Ab hf f.place)) (vK _ _))),some (.sh f.d),?_⟩;rw[pX];rfl)
 exact aH rfl (a9 (ay rfl) (a9 (lL (ig (ds:=p.map Fr.d) rfl rfl) e) (aN rfl)))
theorem GN{k:Nat}:dIx (ao rs k).d (.int 1)=okI ((ao rs k).rk:Nat):=cg
theorem ve{u:List Fr}{top:Fr}{b:Nat}(h:∀f∈u++[top],f.row<rs.length)(hb:b<rs.length):ib [aQ bs rs,cG (u++[top]),.int b]=okB (decide ((ao rs top.row).rk<(ao rs b).rk) && !(shutV rs (u++[top])).testBit b):=by
 have ht:=h top (by simp)
 exact aH rfl (a9 (ay (a6 rfl rfl cg)) (aN (Ff (a6 (a6 (a6 rfl rfl (mU hb)) rfl GN) (a6 (a6 rfl (a6 (a6 rfl rfl (oy u top)) rfl (Jm top)) (mU ht)) rfl GN) (LC _ _)) (AY (bA rfl rfl (yr h)) rfl))))
theorem JB{u:List Fr}(h:u.length<=1000)(b:Nat):aK (cG u) (.tup [.tup [.int b,.int 0,.int 0,.tup []]])=okD (cG (u++[⟨b,0,0,[]⟩])):=by
 show aK (.tup (u.map Fr.d)) _=okD (.tup ((u++[_]).map Fr.d));rw[xX (by rw[length_map,length_singleton];omega),map_append];rfl
theorem JW{ρ:MEnv}{i:Nat}{b:Nat}(h:ρ[i]?=some (some (.sh (.int b)))):aD [(aD [(a5 i),(eC (.int 0)),(eC (.int 0)),(aD [])])] ρ=okD (.tup [.tup [.int b,.int 0,.int 0,.tup []]]):=bL (og (bq h) rfl rfl rfl rfl) rfl
theorem zS{u:List Fr}(h:u.length<=1000)(b:Nat):kj [cG u,.int b]=okD (cG (u++[⟨b,0,0,[]⟩])):=aH rfl (aN (a6 rfl (JW rfl) (JB h b)))
end
def de(bs:List Bx):List Int:=(bs.map (·.2)).flatten
theorem w4(q:List Bx)(b:Bx):de (q++[b])=de q++b.2:=by unfold de;rw[map_append,List.flatten_append];simp
theorem Bi{bs:List Bx}(hb:∀b∈bs,b.2.length<=2):(de bs).length<=2 * bs.length:=by
 induction bs with
 |nil=>exact le_refl _
 |cons b bs ih=>
  have h1:=hb b mem_cons_self;have h2:=ih λc hc=>hb c (mem_cons_of_mem _ hc);show((b::bs).map (·.2)).flatten.length<=_;rw[map_cons,flatten_cons,length_append,length_cons];unfold de at h2;omega
theorem FI{q post:List Bx}{b:Bx}{bs:List Bx}(hb:eU bs)(h:bs=q++b::post):(de q).length<=16/\b.2.length<=2:=by
 have h8:=hb.1;have hq:∀c∈q,c.2.length<=2:=λc hc=>(hb.2 c (by rw[h];simp[hc])).2.1
 have h1:=Bi hq;have h2:q.length<=8:=by rw[h,length_append] at h8;omega
 exact⟨by omega,(hb.2 b (by rw[h];simp)).2.1⟩
theorem uj{bs:List Bx}(hb:eU bs):jD [cK bs]=okD (.tup ((de bs).map D.int)):=by
 obtain⟨ρ',e,e2,rfl⟩:=ki (bd:=aW 2) (body:=sF) bD (λq ρ=>∃e2:Option S,ρ=[some (.sh (cK bs)),some (.own (.lst ((de q).map D.int))),e2]) bs (ρ:=[some (.sh (cK bs)),some (.own (.lst [])),none]) ⟨none,rfl⟩ (by
  rintro q b post ρ hq ⟨e2,rfl⟩
  obtain⟨l1,l2⟩:=FI hb hq;refine⟨_,_,rfl,.inl (ES rfl (a6 rfl rfl (Ey b)) rfl (by rw[length_map,length_map];exact le_trans (by omega:_<=18) (by decide))),some (.sh (bD b)),?_⟩
  rw[w4,map_append];rfl)
 exact aH rfl (a9 (ay rfl) (a9 (lL (ig rfl rfl) e) (cI (aN (bL rfl rfl)))))
theorem yn(bs:List Bx):(de bs).length=l7 bs:=by
 have hts:∀x,x<=bs.length->((bs.take x).map λb=>b.2.length).sum=fstB bs x:=λx h=>by
  unfold fstB;congr 1;refine ext_getElem? λi=>?_;rw[getElem?_map,getElem?_map];by_cases hi:i<x
  ·rw[List.getElem?_take_of_lt hi,getElem?_range hi,getElem?_eq_getElem (by omega)]
   show some bs[i].2.length=some (szB bs i);rw[ym (by omega)]
  ·rw[getElem?_eq_none (by rw[length_take];omega),getElem?_eq_none (by rw[length_range];omega)];rfl
 have h:=hts bs.length (le_refl _);rw[List.take_length] at h;unfold de l7;rw[List.length_flatten,map_map,←h];rfl
def enumD:Nat->List (Nat×Nat)->List D
 |_,[]=>[]
 |i,x::l=>.tup [.int i,std x]::enumD (i+1) l
theorem tQ:∀(l:List (Nat×Nat))(i:Nat),(List.range l.length).map (λj:Nat=>D.tup [.int ((i+j:Nat):Int),std (l.getD j (0,0))])=enumD i l
 |[],i=>rfl
 |x::l,i=>by
  rw[length_cons,List.range_succ_eq_map,map_cons,map_map];show _::_=D.tup [.int i,std x]::enumD (i+1) l;rw[←tQ l (i+1)];refine congrArg _ (map_congr_left λj _=>?_);show D.tup [.int ((i+(j+1):Nat):Int),std (l.getD j (0,0))]=D.tup [.int ((i+1+j:Nat):Int),std (l.getD j (0,0))];rw[show i+(j+1)=i+1+j by omega]
def WdOk(rs:List Rw)(w:Nat):Prop:=w=0\/∃k,1<=k/\k<rs.length/\w=2 ^ k
section
variable{bs:List Bx}{rs:List Rw}
theorem Dy{ws:List Nat}{m:Nat}(h:∀w∈ws,WdOk rs w):∀w∈ws++replicate m 0,WdOk rs w:=λw hw=>by
 rcases mem_append.mp hw with z|z
 ·exact h w z
 ·exact .inl (List.eq_of_mem_replicate z)
theorem sQ(pr:Jd bs rs){sd:D}{u:List Fr}(hu:u.length<=100)(e5:Option S){r p:Nat}(hr:r<rs.length)(hp:p<=(ao rs r).pl.length)(hp0:0<r->p<(ao rs r).pl.length)(h12:(ao rs r).pl.length<=12){cs:List Int}(hc:cs.length=l7 bs){ws:List Nat}(hw:ws.length<=90000)(e7:Option S):
  ∃(f':Fr)(cs':List Int)(m:Nat)(e7':Option S),oi (ρR bs rs sd (u++[⟨r,0,0,[]⟩]) cs ws e5 (std (r,p)) e7)=some (.next (ρR bs rs sd (u++[f']) cs' (ws++replicate m 0) e5 (std (r,p)) e7'))/\y8 bs rs f'/\f'.row=r/\f'.place=p/\cs'.length=l7 bs/\m<=5000:=
 vU pr (by omega) 5000 ⟨r,0,0,[]⟩ cs ws e7 (xy pr.hb pr.hr hr (zero_le _)) (He rfl) hc (zero_le _) (λ_=>rfl) hp hp0 (by show(p - 0) * 20+10 - 0<5000;omega) (by omega)
theorem sW(pr:Jd bs rs)(g:vR rs)(B:yc rs){sd:D}:∀(l:List (Nat×Nat))(r w i:Nat)(u:List Fr)(top:Fr)(cs:List Int)(ws:List Nat)(e5:Option S)(x:Option S)(e7:Option S),pf rs r w l->1<=i->1<=r->shutV rs (u++[top])=w->(∀f∈u++[top],f.row<rs.length)->(ao rs top.row).rk<(ao rs r).rk->w.testBit r=false->
  cs.length=l7 bs->u.length+l.length<=20->ws.length+5001 * l.length<=90000->(∀w∈ws,WdOk rs w)->
  ∃(ws':List Nat)(ρ':MEnv),forD (bTup [5,6]) aF (enumD i l) [some (.sh (aQ bs rs)),some (.sh sd),some (.sh (cG (u++[top]))),some (.sh (.tup (cs.map D.int))),some (.own (.lst (ws.map intD))),e5,x,e7]=some (.next ρ')/\ρ'[4]?=some (some (.own (.lst (ws'.map intD))))/\ρ'.length=8/\∀w∈ws',WdOk rs w
 |[],r,w,i,u,top,cs,ws,e5,x,e7,hch,_,_,_,_,_,_,_,_,_,_=>by cases hch
 | (r1,p)::l,r,w,i,u,top,cs,ws,e5,x,e7,hch,hi,hr1,hs,hrow,hrk,hbit,hc,hul,hwl,hws=>by
  have hh:r1=r/\r<rs.length/\p<cntN rs r:=by
   cases hch with
   |last h=>exact⟨rfl,h,vD B h⟩
   |step h1 h2=>exact⟨rfl,h1,h2⟩
  obtain⟨rfl,hr,hp⟩:=hh;have hp':p<(ao rs r1).pl.length:=by unfold cntN at hp;rw[if_neg (by omega)] at hp;exact hp
  rw[length_cons] at hul hwl;have hme:=ve (bs:=bs) hrow hr;rw[hs,decide_eq_true hrk,hbit] at hme;have hen:=zS (u:=u++[top]) (by rw[length_append,length_singleton];omega) r1
  have hsh:oJ (.int 1) (.int (r1:Int))=okI ((2 ^ r1:Nat):Int):=by
   have:=g.n7;rw[pD (by omega) (by omega) (by decide),toNat_natCast,Int.one_mul,Int.natCast_pow];rfl
  have hw1:∀w∈ws++[2 ^ r1],WdOk rs w:=λw hw=>by
   rcases mem_append.mp hw with z|z
   ·exact hws w z
   ·exact .inr ⟨r1,hr1,hr,mem_singleton.mp z⟩
  obtain⟨f',cs',m,e7',er,hf',hfr,hfp,hcl,hm⟩:=sQ (sd:=sd) (u:=u++[top]) pr (by rw[length_append,length_singleton];omega) (some (.sh (.int i))) hr (by omega) (λ_=>hp') (g.at hr).2.1 hc (ws:=ws++[2 ^ r1]) (by rw[length_append,length_singleton];omega) e7
  have body:aF [some (.sh (aQ bs rs)),some (.sh sd),some (.sh (cG (u++[top]))),some (.sh (.tup (cs.map D.int))),some (.own (.lst (ws.map intD))),some (.sh (.int i)),some (.sh (std (r1,p))),e7]=some (.next (ρR bs rs sd (u++[top]++[f']) cs' (ws++[2 ^ r1]++replicate m 0) (some (.sh (.int i))) (std (r1,p)) e7')):=by
   refine a9 (gG (a6 rfl rfl (xp (by omega))) ((a9 (aJ (Az (aU rfl rfl (a6 rfl rfl bU) hme)) rfl) (a9 (ay (bA rfl (a6 rfl rfl bU) hen)) (fq (ds:=ws.map intD) (s:=.sh (intD (2 ^ r1))) rfl (a6 rfl (a6 rfl rfl bU) hsh) (by rw[length_map];exact lt_of_lt_of_le (by omega:ws.length<100000) (by decide))))))) ?_
   rw[←er];unfold ρR;rw[map_append (l₁:=ws)];rfl
  cases hch with
  |last h=>
   refine⟨ws++[2 ^ r1]++replicate m 0,ρR bs rs sd (u++[top]++[f']) cs' (ws++[2 ^ r1]++replicate m 0) (some (.sh (.int i))) (std (r1,0)) e7',?_,rfl,rfl,Dy hw1⟩;unfold enumD forD;show(match aF [some (.sh (aQ bs rs)),some (.sh sd),some (.sh (cG (u++[top]))),some (.sh (.tup (cs.map D.int))),some (.own (.lst (ws.map intD))),some (.sh (.int i)),some (.sh (std (r1,0))),e7] with|some (.next ρ2)=>forD (bTup [5,6]) aF (enumD (i+1) []) ρ2|some (.cont ρ2)=>forD (bTup [5,6]) aF (enumD (i+1) []) ρ2|some (.brk ρ2)=>some (.next ρ2)|o=>o)=_
   rw[body];rfl
  |@step _ _ _ k _ h1 h2 h3 h4 h5 h6=>
   obtain⟨ws',ρ',e,q1,q2,q3⟩:=sW pr g B (sd:=sd) l k _ (i+1) (u++[top]) f' cs' (ws++[2 ^ r1]++replicate m 0) (some (.sh (.int i))) (some (.sh (std (r1,p)))) e7' h6 (by omega) h3 (by rw[pX,hs,hfr,hfp]) (λf hf=>by
     rcases mem_append.mp hf with z|z
     ·exact hrow f z
     ·rw[mem_singleton.mp z,hfr];exact hr) (by rw[hfr];exact h4) h5 hcl (by rw[length_append,length_singleton];omega) (by rw[length_append,length_append,length_singleton,length_replicate];omega) (Dy hw1)
   refine⟨ws',ρ',?_,q1,q2,q3⟩;unfold enumD forD;show(match aF [some (.sh (aQ bs rs)),some (.sh sd),some (.sh (cG (u++[top]))),some (.sh (.tup (cs.map D.int))),some (.own (.lst (ws.map intD))),some (.sh (.int i)),some (.sh (std (r1,p))),e7] with|some (.next ρ2)=>forD (bTup [5,6]) aF (enumD (i+1) l) ρ2|some (.cont ρ2)=>forD (bTup [5,6]) aF (enumD (i+1) l) ρ2|some (.brk ρ2)=>some (.next ρ2)|o=>o)=_
   rw[body];exact e
end
section
variable{bs:List Bx}{rs:List Rw}
theorem oM(g:vR rs):∀{l:List (Nat×Nat)}{r w:Nat},pf rs r w l->l.length+(ao rs r).rk<=10
 |_,_,_,.last h=>by have:=(g.at h).1;rw[length_singleton];omega
 |_,_,_,.step h1 h2 h3 h4 h5 h6=>by have:=oM g h6;rw[length_cons];omega
theorem wj(pr:Jd bs rs)(g:vR rs)(B:yc rs){l:List (Nat×Nat)}(hch:pf rs 0 0 l):∃ws:List Nat,(∀w∈ws,WdOk rs w)/\gY [aQ bs rs,.lst (l.map std)]=okD (.lst (ws.map intD)):=by
 have hlen:=oM g hch;have hst:=uj pr.hb;have hlst:=yn bs;obtain⟨p,l',rfl,hp⟩:∃p l',l=(0,p)::l'/\p<cntN rs 0:=by
  cases hch with
  |last h=>exact⟨0,[],rfl,vD B h⟩
  |step h1 h2=>exact⟨_,_,rfl,h2⟩
 rw[length_cons] at hlen;have hp':p<=(ao rs 0).pl.length:=by unfold cntN at hp;rw[if_pos rfl] at hp;omega
 obtain⟨f',cs',m,e7',er,hf',hfr,hfp,hcl,hm⟩:=sQ (sd:=.lst (((0,p)::l').map std)) (u:=[]) pr (zero_le _) (some (.sh (.int 0))) g.n1 hp' (λz=>by omega) (g.at g.n1).2.1 hlst (ws:=[]) (zero_le _) none
 rw[nil_append] at er;have body:aF [some (.sh (aQ bs rs)),some (.sh (.lst (((0,p)::l').map std))),some (.sh (cG [⟨0,0,0,[]⟩])),some (.sh (.tup ((de bs).map D.int))),some (.own (.lst [])),some (.sh (.int 0)),some (.sh (std (0,p))),none]=some (.next (ρR bs rs (.lst (((0,p)::l').map std)) [f'] cs' (replicate m 0) (some (.sh (.int 0))) (std (0,p)) e7')):=
  a9 (aJ (a6 rfl rfl (xq (by decide))) rfl) er
 have hrep:∀w∈replicate m 0,WdOk rs w:=λw hw=>.inl (List.eq_of_mem_replicate hw);obtain⟨ws,ρ',e,h4,h8,hok⟩:∃(ws:List Nat)(ρ':MEnv),forD (bTup [5,6]) aF (enumD 0 ((0,p)::l')) [some (.sh (aQ bs rs)),some (.sh (.lst (((0,p)::l').map std))),some (.sh (cG [⟨0,0,0,[]⟩])),some (.sh (.tup ((de bs).map D.int))),some (.own (.lst [])),none,none,none]=some (.next ρ')/\ρ'[4]?=some (some (.own (.lst (ws.map intD))))/\ρ'.length=8/\∀w∈ws,WdOk rs w:=by
  cases hch with
  |last h=>
   refine⟨replicate m 0,ρR bs rs (.lst (([(0,0)]).map std)) [f'] cs' (replicate m 0) (some (.sh (.int 0))) (std (0,0)) e7',?_,rfl,rfl,hrep⟩;unfold enumD forD;show(match aF [some (.sh (aQ bs rs)),some (.sh (.lst (([(0,0)]).map std))),some (.sh (cG [⟨0,0,0,[]⟩])),some (.sh (.tup ((de bs).map D.int))),some (.own (.lst [])),some (.sh (.int 0)),some (.sh (std (0,0))),none] with|some (.next ρ2)=>forD (bTup [5,6]) aF (enumD 1 []) ρ2|some (.cont ρ2)=>forD (bTup [5,6]) aF (enumD 1 []) ρ2|some (.brk ρ2)=>some (.next ρ2)|o=>o)=_
   rw[body];rfl
  |@step _ _ _ k _ h1 h2 h3 h4 h5 h6=>
   have hk:=oM g h6;obtain⟨ws',ρ',e,q1,q2,q3⟩:=sW pr g B (sd:=.lst (((0,p)::l').map std)) l' k _ 1 [] f' cs' (replicate m 0) (some (.sh (.int 0))) (some (.sh (std (0,p)))) e7' h6 (by omega) h3 (by rw[nil_append];unfold shutV;rw[foldl_cons,hfr,hfp];rfl) (λf hf=>by
     rw[nil_append] at hf;rw[mem_singleton.mp hf,hfr];exact g.n1) (by rw[hfr];exact h4) h5 hcl (by rw[List.length_nil];omega) (by rw[length_replicate];omega) hrep
   refine⟨ws',ρ',?_,q1,q2,q3⟩;unfold enumD forD;show(match aF [some (.sh (aQ bs rs)),some (.sh (.lst (((0,p)::l').map std))),some (.sh (cG [⟨0,0,0,[]⟩])),some (.sh (.tup ((de bs).map D.int))),some (.own (.lst [])),some (.sh (.int 0)),some (.sh (std (0,p))),none] with|some (.next ρ2)=>forD (bTup [5,6]) aF (enumD 1 l') ρ2|some (.cont ρ2)=>forD (bTup [5,6]) aF (enumD 1 l') ρ2|some (.brk ρ2)=>some (.next ρ2)|o=>o)=_
   rw[body];exact e
 refine⟨ws,hok,?_⟩;have en:xm (a5 1) [some (.sh (aQ bs rs)),some (.sh (.lst (((0,p)::l').map std))),some (.sh (cG [⟨0,0,0,[]⟩])),some (.sh (.tup ((de bs).map D.int))),some (.own (.lst [])),none,none,none]=some (.ok (enumD 0 ((0,p)::l'))):=by
  have:=IP ((0,p)::l') std (0,0) (a:=a5 1) (ρ:=[some (.sh (aQ bs rs)),some (.sh (.lst (((0,p)::l').map std))),some (.sh (cG [⟨0,0,0,[]⟩])),some (.sh (.tup ((de bs).map D.int))),some (.own (.lst [])),none,none,none]) (s:=.sh (.lst (((0,p)::l').map std))) rfl (.inl rfl);rw[this,←tQ];congr 2;refine map_congr_left λj _=>?_;rw[Nat.zero_add]
 refine aH rfl (a9 (ay (s:=.sh (cG [⟨0,0,0,[]⟩])) rfl) (a9 (ay (bL (a6 rfl rfl bU) hst)) (a9 (ay rfl) (a9 (lL en e) (cI (aN (s:=.sh (.lst (ws.map intD))) ?_))))));have hd:dem 4 ρ'=ρ'.set 4 (some (.sh (.lst (ws.map intD)))):=by unfold dem;rw[h4];rfl
 rw[hd];exact bq (getElem?_set_self (by omega))
theorem uW:∀l:List Int,(ka l).length<=l.length
 |[]=>le_refl _
 |k::r=>by
  unfold ka;split
  ·exact le_trans (uW r) (by simp)
  ·rw[length_cons,length_cons];exact Nat.succ_le_succ (uW r)
theorem zX(pr:Jd bs rs)(g:vR rs)(B:yc rs):∃ws:List Nat,(∀w∈ws,WdOk rs w)/\mn [aQ bs rs]=okD (.tup [.int (cnt rs 0 0:Nat),.lst (ws.map intD)]):=by
 obtain⟨d,kvs,em,gk,hd⟩:=zr (bs:=bs) g;have hdm:=zW g B gk hd;subst hdm;have hc:cnt rs 0 0<=6:=by
  rw[AV B];refine le_trans (uW _) ?_;have:=g.n7;rw[length_map,length_drop];omega
 obtain⟨l,hch,es⟩:=Bk (bs:=bs) g gk hd (by omega)
 obtain⟨ws,hok,er⟩:=wj pr g B hch;refine⟨ws,hok,?_⟩;have mc:ir 1 gH [(a5 0),(eC (.int 0)),(eC (.int 0))] [] [some (.sh (aQ bs rs)),some (.own (.dic [])),none]=some (.int (cnt rs 0 0:Nat),[some (.sh (aQ bs rs)),some (.own (.dic kvs)),none]):=by
  show((gH (.dic []) [aQ bs rs,.int 0,.int 0] []).map λp=>(p.1,([some (.sh (aQ bs rs)),some (.own (.dic [])),none]:MEnv).set 1 (some (.own (O.put (.dic []) p.2)))))=_;rw[em];rfl
 have s1:mC 2 (ir 1 gH [(a5 0),(eC (.int 0)),(eC (.int 0))] []) [some (.sh (aQ bs rs)),some (.own (.dic [])),none]=some (.next [some (.sh (aQ bs rs)),some (.own (.dic kvs)),some (.sh (.int (cnt rs 0 0:Nat)))]):=by
  unfold mC;rw[mc];rfl
 have cp:r6 1 bT [(a5 0)] [] [some (.sh (aQ bs rs)),some (.own (.dic kvs)),some (.sh (.int (cnt rs 0 0:Nat)))]=okD (.lst (l.map std)):=by
  have mc2:ir 1 bT [(a5 0)] [] [some (.sh (aQ bs rs)),some (.own (.dic kvs)),some (.sh (.int (cnt rs 0 0:Nat)))]=some (.lst (l.map std),[some (.sh (aQ bs rs)),some (.own (.dic kvs)),some (.sh (.int (cnt rs 0 0:Nat)))]):=by
   show((bT (.dic kvs) [aQ bs rs] []).map λp=>(p.1,([some (.sh (aQ bs rs)),some (.own (.dic kvs)),some (.sh (.int (cnt rs 0 0:Nat)))]:MEnv).set 1 (some (.own (O.put (.dic kvs) p.2)))))=_;rw[es];rfl
  unfold r6;rw[mc2];exact if_pos rfl
 exact aH rfl (a9 (ρ':=[some (.sh (aQ bs rs)),some (.own (.dic [])),none]) rfl (a9 s1 (aN (l6 (s1:=.sh (.int (cnt rs 0 0:Nat))) (s2:=.sh (.lst (ws.map intD))) rfl (bA rfl cp er)))))
end
section
variable{bs:List Bx}{rs:List Rw}{sh:Nat}
theorem pP{k:Nat}(h:k<rs.length):ao (rs.map (dc sh)) k=dc sh (ao rs k):=by
 rw[←fU (rs:=rs.map (dc sh)) (by rw[length_map];exact h),List.getElem_map,fU h]
theorem Gz(n1:1<=rs.length)(n7:rs.length<=7)(hb:eU bs)(hr:∀r∈rs,ROk r/\ROx bs r)(hk:∀k r,rs[k]?=some r->(k=0↔r.rk=0))(hsh:sh<128):
  vR (rs.map (dc sh))/\Jd bs (rs.map (dc sh))/\yc (rs.map (dc sh)):=by
 have hat:∀k,k<rs.length->(k=0↔(ao rs k).rk=0):=λk h=>hk k _ (by rw[←fU h];exact getElem?_eq_getElem h)
 refine⟨⟨by rw[length_map];exact n1,by rw[length_map];exact n7,λr hm=>?_⟩,⟨hb,λr hm q hq=>?_⟩,⟨λr p h1=>?_,?_,λk k1 k2=>?_,λk h=>?_⟩⟩
 ·obtain⟨r0,h0,rfl⟩:=mem_map.mp hm;obtain⟨⟨a,b,c⟩,_⟩:=hr r0 h0;refine⟨a,by show(r0.pl.map _).length<=12;rw[length_map];exact b,λq hq=>?_⟩
  obtain⟨q0,hq0,rfl⟩:=mem_map.mp hq;show(if r0.rk=0 then q0.2 ||| sh else 0)<128;split
  ·exact Nat.or_lt_two_pow (n:=7) (c q0 hq0) hsh
  ·decide
 ·obtain⟨r0,h0,rfl⟩:=mem_map.mp hm;obtain⟨q0,hq0,rfl⟩:=mem_map.mp hq;exact(hr r0 h0).2.2 q0 hq0
 ·by_cases h:r<rs.length
  ·unfold wdAt;rw[pP h];have hne:¬(ao rs r).rk=0:=λz=>by have:=(hat r h).mpr z;omega
   unfold dc;dsimp only;rw[getElem?_map];cases (ao rs r).pl[p]? with
   |none=>rfl
   |some q=>show(if(ao rs r).rk=0 then q.2 ||| sh else 0)=0;rw[if_neg hne]
  ·unfold wdAt ao;rw[getD_eq_getElem?_getD,getElem?_eq_none (l:=rs.map (dc sh)) (by rw[length_map];omega)]
   rfl
 ·rw[pP n1];exact(hat 0 n1).mp rfl
 ·rw[length_map] at k2;rw[pP k2];have:¬(ao rs k).rk=0:=λz=>by have:=(hat k k2).mpr z;omega
  show 1<=(ao rs k).rk;omega
 ·rw[length_map] at h;rw[pP h];show 1<=((ao rs k).pl.map _).length;rw[length_map];exact(hr _ (An h)).2.1
theorem De{w:Nat}(h:WdOk rs w)(n1:1<=rs.length):w % 2=0/\w<2 ^ rs.length:=by
 rcases h with rfl|⟨k,k1,k2,rfl⟩
 ·exact⟨rfl,Nat.pow_pos (by decide)⟩
 ·refine⟨?_,Nat.pow_lt_pow_right (by decide) k2⟩
  obtain⟨j,rfl⟩:∃j,k=j+1:=⟨k - 1,by omega⟩
  rw[Nat.pow_succ];omega
theorem Dd{ws:List Nat}(h:∀w∈ws,WdOk rs w)(n1:1<=rs.length):jE [.lst (ws.map intD),.int ((rs.length - 1:Nat):Int)]=okB true:=by
 have wh:∀i:Int,eQ [.int i]=okB true:=λ_=>rfl;obtain⟨ρ',e,e2,rfl⟩:=ki (bd:=aW 2) (body:=sG) intD (λq ρ=>∃e2:Option S,ρ=[some (.sh (.lst (ws.map intD))),some (.sh (.int ((rs.length - 1:Nat):Int))),e2]) ws (ρ:=[some (.sh (.lst (ws.map intD))),some (.sh (.int ((rs.length - 1:Nat):Int))),none]) ⟨none,rfl⟩ (by
  rintro q w post ρ hq ⟨e2,rfl⟩
  obtain⟨w2,wl⟩:=De (h w (by rw[hq];simp)) n1
  have b1:kn (.int (w:Int)) (.int 1)=okI ((0:Nat):Int):=by
   have:=rn w 1;rw[Nat.and_one_is_mod,w2] at this;exact this
  have b2:pq (.int (w:Int)) (.int ((rs.length - 1+1:Nat):Int))=okI ((0:Nat):Int):=by
   rw[Al,Nat.shiftRight_eq_div_pow,Nat.div_eq_of_lt (by rw[Nat.sub_add_cancel n1];exact wl)]
  refine⟨_,_,rfl,.inl (aJ (rR (Az (bL rfl (wh _))) (rR (a6 rfl rfl (xh (by omega))) (rR (a6 (a6 rfl rfl b1) rfl (zR (by decide))) (a6 (a6 rfl (a6 rfl rfl (nL (rs.length - 1) 1)) b2) rfl (G5 rfl))))) rfl),some (.sh (intD w)),rfl⟩)
 exact aH rfl (a9 (aJ (Az (ud rfl rfl)) rfl) (a9 (lL (ig rfl rfl) e) (aN rfl)))
end
theorem law_true(ns:List Int)(hns:ns.length<=63):AH [.lst (ns.map D.int)]=some (.ok (.sh (.bl true))):=by
 obtain⟨i,di,hi⟩:=gw (ns:=ns) (k:=7) (m:=3) (by decide) (by decide) (by decide)
 obtain⟨long,el,l1,l2⟩:∃long:Nat,dIx (.lst [.int 1,.int 2,.int 4]) (.int (i:Int))=okI (long:Nat)/\1<=long/\long<=12:=by
  match i,hi with
  |0,_=>exact⟨1,qS,by decide,by decide⟩
  |1,_=>exact⟨2,xi,by decide,by decide⟩
  |2,_=>exact⟨4,AC,by decide,by decide⟩
  |n+3,hi=>omega
 obtain⟨bs,rs,ep,n1,n7,hb,hr,hk⟩:=yJ (ns:=ns) l1 l2;obtain⟨j,dj,hj⟩:=gw (ns:=ns) (k:=90) (m:=2) (by decide) (by decide) (by decide)
 have hp7:2 ^ rs.length<=2 ^ 7:=Nat.pow_le_pow_right (by decide) n7
 have hp1:2 ^ 1<=2 ^ rs.length:=Nat.pow_le_pow_right (by decide) n1
 have hs:oJ (.int 1) (.int ((rs.length - 1+1:Nat):Int))=okI ((2 ^ rs.length:Nat):Int):=by
  rw[pD (by omega) (by omega) (by decide),toNat_natCast,Nat.sub_add_cancel n1,Int.one_mul,Int.natCast_pow];rfl
 obtain⟨sh,esh,hsh⟩:∃sh:Nat,dIx (.lst [.int 0,.int ((2 ^ rs.length - 2:Nat):Int)]) (.int (j:Int))=okI (sh:Nat)/\sh<128:=by
  match j,hj with
  |0,_=>exact⟨0,qS,by decide⟩
  |1,_=>exact⟨2 ^ rs.length - 2,xi,by omega⟩
  |n+2,hj=>omega
 obtain⟨g,pr,B⟩:=Gz n1 n7 hb hr hk hsh;have hbe:=GA (bs:=bs) (sh:=sh) n7 λr hm=>(hr r hm).1.2.1;obtain⟨ws,hws,ed⟩:=zX pr g B;have hwo:=Dd hws (by rw[length_map];exact n1)
 rw[length_map] at hwo;have hlen:cC (.tup (rs.map Rw.d))=okI (rs.length:Nat):=by rw[rh,length_map]
 have hdue:=AV B;have cm:∀ρ:MEnv,ρ[3]?=some (some (.sh (aQ bs (rs.map (dc sh)))))->ρ.length=7->l5 vz (cR [6] (jf (bx (a8 dIx (a5 3) (eC (.int 1))) (some (eC (.int 1))) none)) (aW 6) fo (a8 dIx (a5 6) (eC (.int 1)))) ρ=okI (cnt (rs.map (dc sh)) 0 0:Nat):=λρ h3 hl=>by
  refine ud (s:=.own (.lst (((rs.map (dc sh)).drop 1).map λr=>D.int (r.rk:Int)))) (ji ((rs.map (dc sh)).drop 1) Rw.d (λr=>D.int (r.rk:Int)) (ig (s:=.sh (.tup (((rs.map (dc sh)).drop 1).map Rw.d))) ?_ rfl) ?_ λr _=>⟨_,rfl,_,a6 (bq (getElem?_set_self (by unfold bI;simp[bI,hl]))) rfl cg,rfl⟩) ?_
  ·rw[List.map_drop];exact oV (ds:=(rs.map (dc sh)).map Rw.d) (x:=1) (a6 (bq h3) rfl cg) rfl rfl (by decide) (by rw[length_map,length_map];exact n1)
  ·rw[length_drop,length_map];exact le_trans (by omega:rs.length - 1<=7) (by decide)
  ·show(intsOf (((rs.map (dc sh)).drop 1).map λr=>D.int (r.rk:Int))).bind _=_;rw[show(((rs.map (dc sh)).drop 1).map λr=>D.int (r.rk:Int))=(((rs.map (dc sh)).drop 1).map λr=>(r.rk:Int)).map D.int from by rw[map_map];rfl,lE]
   show(if _<=32 then _ else none)=_;rw[if_pos (by rw[length_map,length_drop,length_map];omega),hdue]
 refine aH rfl (a9 (ay (bA rfl (a6 (s:=.own (.lst [.int 1,.int 2,.int 4])) rfl (aU rfl rfl rfl di) el) ep)) (a9 (ay (a6 (jO (a6 rfl rfl cg) hlen) rfl (Aj n1))) (a9 (ay (bA rfl (a6 (s:=.own (.lst [.int 0,.int ((2 ^ rs.length - 2:Nat):Int)])) (bA rfl (a6 (a6 rfl (a6 rfl rfl (nL (rs.length - 1) 1)) hs) rfl (Aj (b:=2) hp1)) rfl) (aU rfl rfl rfl dj) esh) hbe)) (a9 (ay (cm _ rfl rfl)) (a9 (ay (bL rfl ed)) (a9 (aJ (rR (Az (ud rfl rfl)) (a6 (jO (u7 rfl) rfl) rfl (G5 rfl))) rfl) (aN (iA (bL (a6 rfl rfl bU) rfl) (iA (a6 (a6 rfl rfl bU) rfl (zQ rfl)) (bA (a6 rfl rfl cg) rfl hwo))))))))))
end Bell
set_option maxHeartbeats 8000000
namespace Bell
open PySem PySem.Spec PyProof.Rows L2 L3
def top(i:Nat):Stmt:=PySem.Challenge.pw_bellnest_k32_depth_where_nothing_is_shut.main.body.getD i (.Pass ⟨0,0,0,0⟩)
abbrev kH:Stmt:=top 48
def zk:List Str:=["_law_program_here","_law_shut_here","_law_rows","_law_row","_law_places","_law_place"]
def jb:List Str:=["_law_program_here","_law_shut_here"]
abbrev kF:Stmt:=top 39
def zi:List Str:=["_law_script","_law_k","_law_many","_law_cell"]
def cH:List Str:=["_law_script","_law_k","_law_many"]
abbrev iB:Stmt:=top 40
def uY:List Str:=["_law_script","_law_k","_law_far","_law_menu"]
def eY:List Str:=["_law_script","_law_k"]
abbrev jw:Stmt:=top 41
def wR:List Str:=["_law_script","_law_boxes_here","_law_b","_law_starts","_law_size"]
def i5:List Str:=["_law_script"]
abbrev kG:Stmt:=top 42
def zj:List Str:=["_law_boxes_here","_law_script","_law_k","_law_kinds","_law_kind","_law_x","_law_size","_law_same","_law_y","_law_ones","_law_n","_law_b"]
def ja:List Str:=["_law_boxes_here","_law_script","_law_k"]
abbrev kE:Stmt:=top 43
def zh:List Str:=["_law_script","_law_r","_law_wild"]
def j9:List Str:=["_law_script","_law_r"]
abbrev kD:Stmt:=top 44
def zg:List Str:=["_law_script","_law_k","_law_bells","_law_word","_law_half"]
def j8:List Str:=["_law_script","_law_k","_law_bells"]
abbrev gO:Stmt:=top 45
def sg:List Str:=["_law_script","_law_longest","_law_boxes_here","_law_bells","_law_rows","_law_r","_law_places","_law_p","_law_k"]
def fh:List Str:=["_law_script","_law_longest"]
abbrev jv:Stmt:=top 46
def wQ:List Str:=["_law_found"]
def fI:List Str:=["_law_found"]
abbrev ju:Stmt:=top 47
def wO:List Str:=["_law_found","_law_bells","_law_word"]
def i0:List Str:=["_law_found","_law_bells"]
abbrev e9:Stmt:=top 33
def nR:List Str:=["program","row","count"]
def cN:List Str:=["program","row"]
abbrev jr:Stmt:=top 19
def wM:List Str:=["program","row"]
def eM:List Str:=["program","row"]
abbrev lZ:Stmt:=top 22
def BV:List Str:=["program","row","place","places"]
def iW:List Str:=["program","row","place"]
abbrev kC:Stmt:=top 34
def ze:List Str:=["program","row","word","rows","steps","place","shut","bell"]
def gB:List Str:=["program","row","word"]
abbrev bS:Stmt:=top 36
def oB:List Str:=["program","depths","stands","row","word","step"]
def dr:List Str:=["program","depths"]
abbrev m6:Stmt:=top 35
def BY:List Str:=["program","row","word","depths","above","step"]
def jY:List Str:=["program","row","word","depths"]
abbrev m9:Stmt:=top 25
def Ca:List Str:=["pile","bell"]
def k6:List Str:=["pile","bell"]
abbrev m5:Stmt:=top 23
def BX:List Str:=["program","pile","word","frame"]
def jX:List Str:=["program","pile"]
abbrev jt:Stmt:=top 24
def wN:List Str:=["program","pile","bell","rows"]
def hZ:List Str:=["program","pile","bell"]
abbrev jq:Stmt:=top 3
def wL:List Str:=["boxes","starts","box"]
def hV:List Str:=["boxes"]
abbrev me:Stmt:=top 20
def Cd:List Str:=["program","row","place"]
def k9:List Str:=["program","row","place"]
abbrev m3:Stmt:=top 1
def BW:List Str:=["boxes","x"]
def jW:List Str:=["boxes","x"]
abbrev kJ:Stmt:=top 2
def zm:List Str:=["boxes","x","first","k"]
def jc:List Str:=["boxes","x"]
abbrev nE:Stmt:=bQ (top 6) 0
def E7:List Str:=["self","plan"]
def fk:List Str:=["self","plan"]
abbrev kI:Stmt:=bQ (top 14) 0
def zl:List Str:=["self","sources","targets","cell"]
def gC:List Str:=["self","sources","targets"]
abbrev nG:Stmt:=bQ (top 16) 0
def E9:List Str:=["self","targets","sources","tally"]
def lB:List Str:=["self","targets","sources","tally"]
abbrev jy:Stmt:=bQ (top 7) 0
def wV:List Str:=["self","watched"]
def fJ:List Str:=["self","watched"]
abbrev gQ:Stmt:=bQ (top 8) 0
def sj:List Str:=["self","left","right"]
def fm:List Str:=["self","left","right"]
abbrev nF:Stmt:=bQ (top 12) 0
def E8:List Str:=["self","targets","sources","k"]
def lA:List Str:=["self","targets","sources"]
abbrev nD:Stmt:=bQ (top 15) 0
def E6:List Str:=["self","targets","number"]
def lz:List Str:=["self","targets","number"]
abbrev pE:Stmt:=bQ (top 11) 0
def G6:List Str:=["self","targets","numbers","cell"]
def nM:List Str:=["self","targets","numbers"]
abbrev m7:Stmt:=bQ (top 10) 0
def BZ:List Str:=["self","number"]
def jZ:List Str:=["self","number"]
abbrev nC:Stmt:=bQ (top 13) 0
def E5:List Str:=["self","target"]
def ly:List Str:=["self","target"]
abbrev gP:Stmt:=bQ (top 9) 0
def si:List Str:=["self"]
def fj:List Str:=["self"]
abbrev md:Stmt:=top 17
def Cc:List Str:=["boxes","deed","kind","first","second"]
def k8:List Str:=["boxes","deed"]
abbrev jx:Stmt:=top 21
def wU:List Str:=["program","frame"]
def i8:List Str:=["program","frame"]
abbrev iF:Stmt:=bQ (top 6) 2
def v7:List Str:=["self","turn"]
def dF:List Str:=["self","turn"]
abbrev gR:Stmt:=bQ (top 14) 1
def sk:List Str:=["self","turn","cells","hand"]
def dS:List Str:=["self","turn","cells","hand"]
abbrev lY:Stmt:=top 5
def BU:List Str:=["cells","cell","number"]
def fH:List Str:=["cells","cell","number"]
abbrev iE:Stmt:=bQ (top 6) 1
def v5:List Str:=["self"]
def eZ:List Str:=["self"]
abbrev gT:Stmt:=bQ (top 6) 3
def sr:List Str:=["self","turn"]
def cD:List Str:=["self","turn"]
abbrev ee:Stmt:=bQ (top 14) 2
def nT:List Str:=["self","turn","cells","hand","number","behind","kept"]
def cf:List Str:=["self","turn","cells","hand","number"]
abbrev iI:Stmt:=bQ (top 16) 1
def va:List Str:=["self","turn","cells","hand"]
def g8:List Str:=["self","turn","cells","hand"]
abbrev iH:Stmt:=bQ (top 12) 1
def v9:List Str:=["self","turn","cells","hand","number"]
def g7:List Str:=["self","turn","cells","hand"]
abbrev iG:Stmt:=bQ (top 6) 4
def v8:List Str:=["self","turn","cells","hand"]
def fZ:List Str:=["self","turn","cells","hand"]
abbrev iD:Stmt:=bQ (top 15) 1
def v3:List Str:=["self","turn","cells","hand"]
def fY:List Str:=["self","turn","cells","hand"]
abbrev jA:Stmt:=bQ (top 11) 1
def wW:List Str:=["self","turn","cells","hand"]
def i9:List Str:=["self","turn","cells","hand"]
abbrev iC:Stmt:=bQ (top 13) 1
def uZ:List Str:=["self","turn","cells","hand","cell"]
def fX:List Str:=["self","turn","cells","hand"]
abbrev nB:Stmt:=top 26
def E3:List Str:=["program","pile","cells","top","deed","left","frame"]
def lx:List Str:=["program","pile","cells"]
abbrev gN:Stmt:=top 31
def sf:List Str:=["program","stands","pile","cells","words","number","stand","left"]
def fg:List Str:=["program","stands"]
abbrev ma:Stmt:=top 37
def Cb:List Str:=["program","depths","depth"]
def k7:List Str:=["program"]
abbrev wb:Stmt:=top 49
def JY:List Str:=["_law_script","_law_made","_law_bells","_law_program_here","_law_due","_law_found","_law_row"]
def Av:List Str:=["_law_script"]
abbrev CC:Addr:=449
abbrev PT:Addr:=445
def good:Pos->Option Str:=zN [(207,53)] "highest_stands.<locals>.<lambda>"
def Iq:lS:=JZ (Jz ((KH ((aR bS).getD 3 (.Pass ⟨0,0,0,0⟩))).getD 0 (.Pass ⟨0,0,0,0⟩))) "highest_stands.<locals>.<lambda>" "told" ["depths"]
def E4:List Str:=["told","depths"]
abbrev Γc(K:Frag)(cls:String->Addr):Ct:=Lo K cls (λ_=>none) PT good
structure gM(mg:Str->Option Value):Prop where
 bool:mg "bool" = none
 enumerate:mg "enumerate" = none
 int:mg "int" = none
 isinstance:mg "isinstance" = none
 len:mg "len" = none
 list:mg "list" = none
 max:mg "max" = none
 range:mg "range" = none
 set:mg "set" = none
 sorted:mg "sorted" = none
 sum:mg "sum" = none
 tuple:mg "tuple" = none
structure Jj(K:Frag)(mg:Str->Option Value)(cls:String->Addr):Prop where
 L_law_bare:bz K mg "_law_bare" kH jb
 L_law_draw:bz K mg "_law_draw" kF cH
 L_law_number:bz K mg "_law_number" iB eY
 L_law_boxes:bz K mg "_law_boxes" jw i5
 L_law_deed:bz K mg "_law_deed" kG ja
 L_law_rank:bz K mg "_law_rank" kE j9
 L_law_shut:bz K mg "_law_shut" kD j8
 L_law_program:bz K mg "_law_program" gO fh
 L_law_whole:bz K mg "_law_whole" jv fI
 L_law_words:bz K mg "_law_words" ju i0
 L_places_to_stand:bz K mg "places_to_stand" e9 cN
 L_places_of:bz K mg "places_of" jr eM
 L_word_at:bz K mg "word_at" lZ iW
 L_steps_up:bz K mg "steps_up" kC gB
 L_highest_stands:B5 K mg "highest_stands" bS dr CC
 L_measure:bz K mg "measure" m6 jY
 L_entered:bz K mg "entered" m9 k6
 L_shut_by:bz K mg "shut_by" m5 jX
 L_may_enter:bz K mg "may_enter" jt hZ
 L_starts_of:bz K mg "starts_of" jq hV
 L_deed_at:bz K mg "deed_at" me k9
 L_size_of:bz K mg "size_of" m3 jW
 L_cells_of:bz K mg "cells_of" kJ jc
 L_i_Deed:dO K mg cls "Deed" "Deed" "Deed.__init__" nE fk
 L_i_Handed:dO K mg cls "Handed" "Handed" "Handed.__init__" kI gC
 L_i_Anew:dO K mg cls "Anew" "Anew" "Anew.__init__" nG lB
 L_i_Promise:dO K mg cls "Promise" "Promise" "Promise.__init__" jy fJ
 L_i_Comparing:dO K mg cls "Comparing" "Comparing" "Comparing.__init__" gQ fm
 L_i_Copy:dO K mg cls "Copy" "Copy" "Copy.__init__" nF lA
 L_i_Grow:dO K mg cls "Grow" "Grow" "Grow.__init__" nD lz
 L_i_Put:dO K mg cls "Put" "Put" "Put.__init__" pE nM
 L_i_Still:dO K mg cls "Still" "Still" "Still.__init__" m7 jZ
 L_i_Tick:dO K mg cls "Tick" "Tick" "Tick.__init__" nC ly
 L_i_Untouched:dO K mg cls "Untouched" "Untouched" "Untouched.__init__" gP fj
 L_deed_of:bz K mg "deed_of" md k8
 L_is_at_end:bz K mg "is_at_end" jx i8
 L_Deed_reads:dN K cls "reads" "Deed.reads" iF dF ["Deed","Promise","Comparing","Untouched","Still","Put","Copy","Tick","Handed","Grow","Anew"]
 L_Handed_laid:dN K cls "laid" "Handed.laid" gR dS ["Handed","Grow","Anew"]
 L_written:bz K mg "written" lY fH
 L_Deed_turns:dN K cls "turns" "Deed.turns" iE eZ ["Deed","Promise","Comparing","Untouched","Still","Put","Copy","Tick","Handed","Grow","Anew"]
 L_Deed_writes:dN K cls "writes" "Deed.writes" gT cD ["Deed","Promise","Comparing","Untouched","Still","Put","Copy","Tick","Handed","Grow","Anew"]
 L_Handed_set_down:dN K cls "set_down" "Handed.set_down" ee cf ["Handed","Grow","Anew"]
 L_Anew_after:dN K cls "after" "Anew.after" iI g8 ["Anew"]
 L_Copy_after:dN K cls "after" "Copy.after" iH g7 ["Copy"]
 L_Deed_after:dN K cls "after" "Deed.after" iG fZ ["Deed","Promise","Comparing","Untouched","Still","Handed"]
 L_Grow_after:dN K cls "after" "Grow.after" iD fY ["Grow"]
 L_Put_after:dN K cls "after" "Put.after" jA i9 ["Put"]
 L_Tick_after:dN K cls "after" "Tick.after" iC fX ["Tick"]
 L_turned:bz K mg "turned" nB lx
 L_ringings_to:bz K mg "ringings_to" gN fg
 L_deepest:bz K mg "deepest" ma k7
 L_law:bz K mg "law" wb Av
 fld_check:∀c∈["Anew"],jR K (cls c)/\cq K (cls c) "check"
 fld_number:∀c∈["Grow"],jR K (cls c)/\cq K (cls c) "number"
 fld_numbers:∀c∈["Put"],jR K (cls c)/\cq K (cls c) "numbers"
 fld_plan:∀c∈["Deed","Promise","Comparing","Untouched","Still","Put","Copy","Tick","Handed","Grow","Anew"],jR K (cls c)/\cq K (cls c) "plan"
 fld_size:∀c∈["Grow"],jR K (cls c)/\cq K (cls c) "size"
seal PySem.wpAny
section
variable{P:Program}{w:World}{K:Frag}{mg:Str->Option Value}{base:Heap}{cls:String->Addr}
theorem eI:aq zk jb (ag kH):=⟨rfl,rfl,rfl,by decide +kernel,rfl,by decide +kernel,by decide +kernel⟩
theorem wH(L:bz K mg "_law_bare" kH jb)(Z:gM mg)  : dR P w K mg base (Γc K cls) 1 "_law_bare" jb kP:=b9 (k:=0) L eI λf cdv A outer s H E hr=>(af (fG (i:=2) eI.nd rfl (cA a7)) (af (gW PassesOwn.never rfl (fz rfl (aj (bu rfl) (a0 (pv 0)) aa)) (t6 eI.nd rfl) (af (wx (i:=4) eI.nd rfl (by first|exact Or.inl rfl|exact Or.inr rfl) (js:=[5]) (vars:=[".0","_law_place"]) (dz 5) (by rfl) (by rfl) rfl (fz rfl (aj (bu rfl) (a0 (pv 3)) aa)) (λ_ _ _ _=>(t6 eI.nd rfl)) (λ_ _ _ _=>(aA (c6 (aj (bu rfl) (a0 (pv 5)) aa) (cU aa a7))))) (af (bp (aE bM (aj (bu rfl) (a0 (pv 3)) aa) aa) (ah (wx (i:=4) eI.nd rfl (by first|exact Or.inl rfl|exact Or.inr rfl) (js:=[5]) (vars:=[".0","_law_place"]) (dz 5) (by rfl) (by rfl) rfl (fz rfl (aj (bu rfl) (a0 (pv 3)) aa)) (λ_ _ _ _=>(t6 eI.nd rfl)) (λ_ _ _ _=>(aA (c6 (aj (bu rfl) (a0 (pv 5)) aa) (cV (au uM (aj (bu rfl) (a0 (pv 5)) aa) (a0 (pv 1))) a7)))))) aO) (aT (i:=4) (ah (dE (i:=2) (pv 2) (aA (c6 (aj (bu rfl) (a0 (pv 3)) aa) (c6 (aj (bu rfl) (a0 (pv 3)) aa) (iJ (jV (eS rfl) rfl Z.tuple L3.dM (padN (a0 (pv 4)) a7)) a7)))))))))) (aT (i:=2) (ah (ar (aA (c6 (aj (bu rfl) (a0 (pv 0)) aa) (iJ (jV (eS rfl) rfl Z.tuple L3.dM (padN (a0 (pv 2)) a7)) a7))))))))
theorem lg:aq zi cH (ag kF):=⟨rfl,rfl,rfl,by decide +kernel,rfl,by decide +kernel,by decide +kernel⟩
theorem wF(L:bz K mg "_law_draw" kF cH)(Z:gM mg)  : dR P w K mg base (Γc K cls) 1 "_law_draw" cH ax:=b9 (k:=0) L lg λf cdv A outer s H E hr=>(af (fG (i:=3) lg.nd rfl aa) (af (bp (aE lC (bO (cJ rfl) rfl Z.len PySem.boot_len (bc (cb (pv 0)) bP)) aa) (ah (fG (i:=3) lg.nd rfl (au iM (aj (bu rfl) (a0 (pv 0)) (au iM (a0 (pv 1)) (bO (cJ rfl) rfl Z.len PySem.boot_len (bc (cb (pv 0)) bP)))) aa))) aO) (ah (ar (au iM (au qE (au iM (au iL (au iM (au iL (au (az rfl) (a0 (pv 3)) aa) (au (az rfl) (au (az rfl) (au iL (a0 (pv 1)) (a0 (pv 1))) (a0 (pv 1))) aa)) aa) aa) aa) aa) (a0 (pv 2)))))))
theorem jK:aq uY eY (ag iB):=⟨rfl,rfl,rfl,by decide +kernel,rfl,by decide +kernel,by decide +kernel⟩
theorem rS(L:bz K mg "_law_number" iB eY)(Z:gM mg)(H_law_draw:dR P w K mg base (Γc K cls) 1 "_law_draw" cH ax):dR P w K mg base (Γc K cls) 2 "_law_number" eY bX:=b9 (k:=1) L jK λf cdv A outer s H E hr=>(af (fG (i:=2) jK.nd rfl (aS H_law_draw (hr.mono (by first|decide|omega)) rfl (padN (a0 (pv 0)) (padN (a0 (pv 1)) (cU aa a7))))) (af (fG (i:=3) jK.nd rfl (cA (cV (au iK (au iM (a0 (pv 2)) aa) aa) (cV (au iK (au Aw aa aa) (au iM (a0 (pv 2)) aa)) (cV (au iK (au iM (a0 (pv 2)) aa) (au Aw aa aa)) (cV (au iL (a0 (pv 2)) aa) a7)))))) (aT (i:=3) (ah (ar (aj (bu rfl) (a0 (pv 3)) (aS H_law_draw (hr.mono (by first|decide|omega)) rfl (padN (a0 (pv 0)) (cV (au (az rfl) (a0 (pv 1)) aa) (cU aa a7))))))))))
theorem fS:aq wR i5 (ag jw):=⟨rfl,rfl,rfl,by decide +kernel,rfl,by decide +kernel,by decide +kernel⟩
theorem uS(L:bz K mg "_law_boxes" jw i5)(Z:gM mg)(H_law_draw:dR P w K mg base (Γc K cls) 1 "_law_draw" cH ax)(H_law_number:dR P w K mg base (Γc K cls) 2 "_law_number" eY bX):dR P w K mg base (Γc K cls) 3 "_law_boxes" i5 jF:=b9 (k:=2) L fS λf cdv A outer s H E hr=>(af (fG (i:=1) fS.nd rfl (cA a7)) (af (gW PassesOwn.never rfl (fD rfl Z.range (aj (bu rfl) (cA (mQ (ds:=[(.int 1),(.int 2),(.int 3),(.int 3),(.int 4),(.int 4),(.int 5),(.int 8)]) rfl)) (aS H_law_draw (hr.mono (by first|decide|omega)) rfl (padN (a0 (pv 0)) (cU aa (cU aa a7)))))) (t6 fS.nd rfl) (af (fG (i:=3) fS.nd rfl (cA (iJ (aS H_law_number (hr.mono (by first|decide|omega)) rfl (padN (a0 (pv 0)) (cV (au (az rfl) aa (au iL aa (a0 (pv 2)))) a7))) (iJ (aS H_law_number (hr.mono (by first|decide|omega)) rfl (padN (a0 (pv 0)) (cV (au (az rfl) aa (au iL aa (a0 (pv 2)))) a7))) a7)))) (af (fG (i:=4) fS.nd rfl (au (az rfl) aa (aS H_law_draw (hr.mono (by first|decide|omega)) rfl (padN (a0 (pv 0)) (cV (au (az rfl) aa (au iL aa (a0 (pv 2)))) (cU aa a7)))))) (aT (i:=3) (ah (dE (i:=1) (pv 1) (aA (cV (au wA (aj (bu rfl) c5 (a0 (pv 2))) (a0 (pv 4))) (iJ (jV (eS rfl) rfl Z.tuple L3.dM (c6 (fW rfl (a0 (pv 3)) j5 (eJ (a0 (pv 4)))) a7)) a7))))))))) (aT (i:=1) (ah (ar (jV (eS rfl) rfl Z.tuple L3.dM (padN (a0 (pv 1)) a7)))))))
theorem bZ:aq zj ja (ag kG):=⟨rfl,rfl,rfl,by decide +kernel,rfl,by decide +kernel,by decide +kernel⟩
theorem wG(L:bz K mg "_law_deed" kG ja)(Z:gM mg)(H_law_draw:dR P w K mg base (Γc K cls) 1 "_law_draw" cH ax)(H_law_number:dR P w K mg base (Γc K cls) 2 "_law_number" eY bX):dR P w K mg base (Γc K cls) 3 "_law_deed" ja gK:=b9 (k:=2) L bZ λf cdv A outer s H E hr=>(af (fG (i:=3) bZ.nd rfl (cA (mQ (ds:=[(.str "put"),(.str "copy"),(.str "grow"),(.str "tick"),(.str "still"),(.str "is"),(.str "most"),(.str "none"),(.str "anew"),(.str "grow"),(.str "put"),(.str "anew")]) rfl))) (aT (i:=3) (af (fG (i:=4) bZ.nd rfl (aj (bu rfl) (a0 (pv 3)) (aS H_law_draw (hr.mono (by first|decide|omega)) rfl (padN (a0 (pv 1)) (padN (a0 (pv 2)) (cU aa a7)))))) (af (fG (i:=5) bZ.nd rfl (aS H_law_draw (hr.mono (by first|decide|omega)) rfl (padN (a0 (pv 1)) (cV (au (az rfl) (a0 (pv 2)) aa) (iJ (bO (cJ rfl) rfl Z.len PySem.boot_len (bc (cb (pv 0)) bP)) a7))))) (af (fG (i:=6) bZ.nd rfl (bO (cJ rfl) rfl Z.len PySem.boot_len (bc (PD.look (aj (bu rfl) (aj (bu rfl) (a0 (pv 0)) (a0 (pv 5))) aa)) bP))) (af (ql (i:=7) bZ.nd rfl (by first|exact Or.inl rfl|exact Or.inr rfl) (js:=[11]) (vars:=[".0","_law_b"]) (dz 11) (by rfl) (by rfl) rfl (fD rfl Z.range (bO (cJ rfl) rfl Z.len PySem.boot_len (bc (cb (pv 0)) bP))) (λ_ _ _ _=>(t6 bZ.nd rfl)) (λ_ _ _ _=>(aE bM (bO (cJ rfl) rfl Z.len PySem.boot_len (bc (PD.look (aj (bu rfl) (aj (bu rfl) (a0 (pv 0)) (a0 (pv 11))) aa)) bP)) (a0 (pv 6)))) (λ_ _ _ _=>(a0 (pv 11)))) (aT (i:=7) (af (fG (i:=8) bZ.nd rfl (aj (bu rfl) (a0 (pv 7)) (aS H_law_draw (hr.mono (by first|decide|omega)) rfl (padN (a0 (pv 1)) (cV (au (az rfl) (a0 (pv 2)) aa) (iJ (bO (cJ rfl) rfl Z.len PySem.boot_len (bc (cb (pv 7)) bP)) a7)))))) (af (ql (i:=9) bZ.nd rfl (by first|exact Or.inl rfl|exact Or.inr rfl) (js:=[11]) (vars:=[".0","_law_b"]) (dz 11) (by rfl) (by rfl) rfl (fD rfl Z.range (bO (cJ rfl) rfl Z.len PySem.boot_len (bc (cb (pv 0)) bP))) (λ_ _ _ _=>(t6 bZ.nd rfl)) (λ_ _ _ _=>(y7.pt (jB (aE bM (bO (cJ rfl) rfl Z.len PySem.boot_len (bc (PD.look (aj (bu rfl) (aj (bu rfl) (a0 (pv 0)) (a0 (pv 11))) aa)) bP)) aa) (jB (aE oz (a0 (pv 11)) (a0 (pv 5))) (jU (aE oz (a0 (pv 11)) (a0 (pv 8)))))))) (λ_ _ _ _=>(a0 (pv 11)))) (af (fG (i:=10) bZ.nd rfl (aS H_law_number (hr.mono (by first|decide|omega)) rfl (padN (a0 (pv 1)) (cV (au (az rfl) (a0 (pv 2)) aa) a7)))) (af (bp (aE bM (a0 (pv 4)) c5) (ah (ar (aA (cU c5 (padN (a0 (pv 5)) (iJ (jV (eS rfl) rfl Z.tuple L3.dM (c6 (fW rfl (cA (padN (a0 (pv 10)) (KS (FV (a0 (pv 10))) a7))) j5 (eJ (a0 (pv 6)))) a7)) a7)))))) aO) (af (bp (y7.pt (jB (aE bM (a0 (pv 4)) c5) (jU (aE oz (a0 (pv 5)) (a0 (pv 8)))))) (ah (ar (aA (cU c5 (padN (a0 (pv 5)) (padN (a0 (pv 8)) a7)))))) aO) (af (bp (aE bM (a0 (pv 4)) c5) (ah (ar (aA (cU c5 (padN (a0 (pv 5)) (padN (a0 (pv 10)) a7)))))) aO) (af (bp (y7.pt (jB (aE bM (a0 (pv 4)) c5) (jU (aE bM (a0 (pv 6)) aa)))) (ah (ar (aA (cU c5 (padN (a0 (pv 5)) a7))))) aO) (af (bp (y7.pt (qk (aE bM (a0 (pv 4)) c5) (uA (aE bM (a0 (pv 4)) c5)))) (ah (ar (aA (padN (a0 (pv 4)) (padN (a0 (pv 5)) (padN (a0 (pv 8)) (padN (a0 (pv 10)) a7))))))) aO) (af (bp (aE bM (a0 (pv 4)) c5) (ah (ar (aA (cU c5 (padN (a0 (pv 5)) a7))))) aO) (af (bp (y7.pt (jB (aE bM (a0 (pv 4)) c5) (jB (aE oz (a0 (pv 5)) (a0 (pv 8))) (jU (aE lC (bO (cJ rfl) rfl Z.len PySem.boot_len (bc (cb (pv 9)) bP)) aa))))) (aT (i:=9) (ah (ar (aA (cU c5 (padN (a0 (pv 5)) (padN (a0 (pv 8)) (c6 (aj (bu rfl) (a0 (pv 9)) (aS H_law_draw (hr.mono (by first|decide|omega)) rfl (padN (a0 (pv 1)) (cV (au (az rfl) (a0 (pv 2)) aa) (iJ (bO (cJ rfl) rfl Z.len PySem.boot_len (bc (cb (pv 9)) bP)) a7))))) a7)))))))) aO) (ah (ar (aA (cU c5 (cV (au (az rfl) aa (aS H_law_draw (hr.mono (by first|decide|omega)) rfl (padN (a0 (pv 1)) (cV (au (az rfl) (a0 (pv 2)) aa) (cU aa a7))))) a7))))))))))))))))))))))
theorem oW:aq zh j9 (ag kE):=⟨rfl,rfl,rfl,by decide +kernel,rfl,by decide +kernel,by decide +kernel⟩
theorem wD(L:bz K mg "_law_rank" kE j9)(Z:gM mg)(H_law_draw:dR P w K mg base (Γc K cls) 1 "_law_draw" cH ax):dR P w K mg base (Γc K cls) 2 "_law_rank" j9 jg:=b9 (k:=1) L oW λf cdv A outer s H E hr=>(af (fG (i:=2) oW.nd rfl (aS H_law_draw (hr.mono (by first|decide|omega)) rfl (padN (a0 (pv 0)) (cV (au (az rfl) aa (a0 (pv 1))) (cU aa a7))))) (ah (ar (aj (bu rfl) (cA (cV (au (az rfl) aa (a0 (pv 2))) (cV (au (az rfl) (a0 (pv 1)) (au qE (a0 (pv 2)) aa)) (cV (au iK aa (a0 (pv 1))) (cV (au (az rfl) aa (au qE (a0 (pv 2)) aa)) a7))))) (aS H_law_draw (hr.mono (by first|decide|omega)) rfl (padN (a0 (pv 0)) (cU aa (cU aa a7))))))))
theorem l9:aq zg j8 (ag kD):=⟨rfl,rfl,rfl,by decide +kernel,rfl,by decide +kernel,by decide +kernel⟩
theorem wC(L:bz K mg "_law_shut" kD j8)(Z:gM mg)(H_law_draw:dR P w K mg base (Γc K cls) 1 "_law_draw" cH ax):dR P w K mg base (Γc K cls) 2 "_law_shut" j8 gJ:=b9 (k:=1) L l9 λf cdv A outer s H E hr=>(af (fG (i:=3) l9.nd rfl (aS H_law_draw (hr.mono (by first|decide|omega)) rfl (padN (a0 (pv 0)) (padN (a0 (pv 1)) (cV (au nN aa (a0 (pv 2))) a7))))) (af (fG (i:=4) l9.nd rfl (aS H_law_draw (hr.mono (by first|decide|omega)) rfl (padN (a0 (pv 0)) (cV (au (az rfl) (a0 (pv 1)) aa) (cV (au nN aa (a0 (pv 2))) a7))))) (ah (ar (au nN (aj (bu rfl) (cA (cU aa (cV (au nO (a0 (pv 3)) (a0 (pv 4))) (padN (a0 (pv 3)) a7)))) (aS H_law_draw (hr.mono (by first|decide|omega)) rfl (padN (a0 (pv 0)) (cU aa (cU aa a7))))) aa)))))
theorem bY:aq sg fh (ag gO):=⟨rfl,rfl,rfl,by decide +kernel,rfl,by decide +kernel,by decide +kernel⟩
theorem qG(L:bz K mg "_law_program" gO fh)(Z:gM mg)(H_law_boxes:dR P w K mg base (Γc K cls) 3 "_law_boxes" i5 jF)(H_law_deed:dR P w K mg base (Γc K cls) 3 "_law_deed" ja gK)(H_law_draw:dR P w K mg base (Γc K cls) 1 "_law_draw" cH ax)(H_law_rank:dR P w K mg base (Γc K cls) 2 "_law_rank" j9 jg)(H_law_shut:dR P w K mg base (Γc K cls) 2 "_law_shut" j8 gJ):dR P w K mg base (Γc K cls) 4 "_law_program" fh gZ:=b9 (k:=3) L bY λf cdv A outer s H E hr=>(af (fG (i:=2) bY.nd rfl (aS H_law_boxes (hr.mono (by first|decide|omega)) rfl (padN (a0 (pv 0)) a7))) (af (fG (i:=3) bY.nd rfl (aS H_law_draw (hr.mono (by first|decide|omega)) rfl (padN (a0 (pv 0)) (cU aa (cU aa a7))))) (af (fG (i:=4) bY.nd rfl (cA a7)) (af (gW PassesOwn.never rfl (fD rfl Z.range (au (az rfl) (a0 (pv 3)) aa)) (t6 bY.nd rfl) (af (fG (i:=6) bY.nd rfl (cA a7)) (af (gW PassesOwn.never rfl (fD rfl Z.range (au (az rfl) aa (aS H_law_draw (hr.mono (by first|decide|omega)) rfl (padN (a0 (pv 0)) (cV (au (az rfl) aa (a0 (pv 5))) (padN (a0 (pv 1)) a7)))))) (t6 bY.nd rfl) (af (fG (i:=8) bY.nd rfl (au (az rfl) (au (az rfl) aa (au iL aa (a0 (pv 5)))) (au iL aa (a0 (pv 7))))) (ah (dE (i:=6) (pv 6) (aA (iJ (aS H_law_deed (hr.mono (by first|decide|omega)) rfl (padN (a0 (pv 2)) (padN (a0 (pv 0)) (padN (a0 (pv 8)) a7)))) (iJ (aS H_law_shut (hr.mono (by first|decide|omega)) rfl (padN (a0 (pv 0)) (cV (au (az rfl) (a0 (pv 8)) aa) (padN (a0 (pv 3)) a7)))) a7))))))) (ah (bp (aE bM (a0 (pv 5)) aa) (aT (i:=6) (ah (dE (i:=4) (pv 4) (aA (cU c5 (cU aa (iJ (jV (eS rfl) rfl Z.tuple L3.dM (padN (a0 (pv 6)) a7)) a7))))))) (aT (i:=6) (ah (dE (i:=4) (pv 4) (aA (cV (au wA (aj (bu rfl) c5 (au iK (a0 (pv 5)) aa)) (au (az rfl) aa (au iM (a0 (pv 5)) aa))) (iJ (aS H_law_rank (hr.mono (by first|decide|omega)) rfl (padN (a0 (pv 0)) (padN (a0 (pv 5)) a7))) (iJ (jV (eS rfl) rfl Z.tuple L3.dM (padN (a0 (pv 6)) a7)) a7)))))))))))) (aT (i:=4) (ah (ar (aA (padN (a0 (pv 2)) (iJ (jV (eS rfl) rfl Z.tuple L3.dM (padN (a0 (pv 4)) a7)) a7))))))))))
theorem uq:aq wQ fI (ag jv):=⟨rfl,rfl,rfl,by decide +kernel,rfl,by decide +kernel,by decide +kernel⟩
theorem uR(L:bz K mg "_law_whole" jv fI)(Z:gM mg)  : dR P w K mg base (Γc K cls) 1 "_law_whole" fI eQ:=b9 (k:=0) L uq λf cdv A outer s H E hr=>(ah (ar (uJ (uH rfl (Gd _) rfl Z.isinstance rfl Z.int L3.IY (a0 (pv 0))) (yR (HW (uH rfl (Es _) rfl Z.isinstance rfl Z.bool L3.Gy (a0 (pv 0))))))))
theorem nA:aq wO i0 (ag ju):=⟨rfl,rfl,rfl,by decide +kernel,rfl,by decide +kernel,by decide +kernel⟩
theorem uQ(L:bz K mg "_law_words" ju i0)(Z:gM mg)(H_law_whole:dR P w K mg base (Γc K cls) 1 "_law_whole" fI eQ):dR P w K mg base (Γc K cls) 2 "_law_words" i0 jE:=b9 (k:=1) L nA λf cdv A outer s H E hr=>(af (bp (pI (mf (uH rfl (Er _) rfl Z.isinstance rfl Z.list L3.vJ (a0 (pv 0))))) (ah (ar As)) aO) (af (gW PassesOwn.never rfl (fz rfl (a0 (pv 0))) (t6 nA.nd rfl) (ah (bp (y7.pt (qk (pI (mf (aS H_law_whole (hr.mono (by first|decide|omega)) rfl (padN (a0 (pv 2)) a7)))) (qk (aE qD (a0 (pv 2)) aa) (qk (aE bM (au nO (a0 (pv 2)) aa) aa) (uA (aE oz (au uL (a0 (pv 2)) (au (az rfl) (a0 (pv 1)) aa)) aa)))))) (ah (ar As)) aO))) (ah (ar As))))
theorem j3:aq nR cN (ag e9):=⟨rfl,rfl,rfl,by decide +kernel,rfl,by decide +kernel,by decide +kernel⟩
theorem mR(L:bz K mg "places_to_stand" e9 cN)(Z:gM mg)  : dR P w K mg base (Γc K cls) 1 "places_to_stand" cN ek:=b9 (k:=0) L j3 λf cdv A outer s H E hr=>(af (fG (i:=2) j3.nd rfl (bO (cJ rfl) rfl Z.len PySem.boot_len (bc (PD.look (aj (bu rfl) (aj (bu rfl) (aj (bu rfl) (a0 (pv 0)) aa) (a0 (pv 1))) aa)) bP))) (ah (ar (rQ rfl rfl Z.list rfl Z.range (qz (aE bM (a0 (pv 1)) aa) (au (az rfl) (a0 (pv 2)) aa) (a0 (pv 2)))))))
theorem uo:aq wM eM (ag jr):=⟨rfl,rfl,rfl,by decide +kernel,rfl,by decide +kernel,by decide +kernel⟩
theorem uO(L:bz K mg "places_of" jr eM)(Z:gM mg)  : dR P w K mg base (Γc K cls) 1 "places_of" eM cQ:=b9 (k:=0) L uo λf cdv A outer s H E hr=>(ah (ar (aj (bu rfl) (aj (bu rfl) (aj (bu rfl) (a0 (pv 0)) aa) (a0 (pv 1))) aa)))
theorem q5:aq BV iW (ag lZ):=⟨rfl,rfl,rfl,by decide +kernel,rfl,by decide +kernel,by decide +kernel⟩
theorem yV(L:bz K mg "word_at" lZ iW)(Z:gM mg)(H_places_of:dR P w K mg base (Γc K cls) 1 "places_of" eM cQ):dR P w K mg base (Γc K cls) 2 "word_at" iW fL:=b9 (k:=1) L q5 λf cdv A outer s H E hr=>(af (fG (i:=3) q5.nd rfl (aS H_places_of (hr.mono (by first|decide|omega)) rfl (padN (a0 (pv 0)) (padN (a0 (pv 1)) a7)))) (ah (ar (qz (aE qD (a0 (pv 2)) (bO (cJ rfl) rfl Z.len PySem.boot_len (bc (cb (pv 3)) bP))) (aj (bu rfl) (aj (bu rfl) (a0 (pv 3)) (a0 (pv 2))) aa) aa))))
theorem fF:aq ze gB (ag kC):=⟨rfl,rfl,rfl,by decide +kernel,rfl,by decide +kernel,by decide +kernel⟩
theorem wB(L:bz K mg "steps_up" kC gB)(Z:gM mg)(H_places_to_stand:dR P w K mg base (Γc K cls) 1 "places_to_stand" cN ek)(H_word_at:dR P w K mg base (Γc K cls) 2 "word_at" iW fL):dR P w K mg base (Γc K cls) 3 "steps_up" gB cX:=b9 (k:=2) L fF λf cdv A outer s H E hr=>(af (fG (i:=3) fF.nd rfl (aj (bu rfl) (a0 (pv 0)) aa)) (af (fG (i:=4) fF.nd rfl (cA a7)) (af (gW PassesOwn.never rfl (fz rfl (aS H_places_to_stand (hr.mono (by first|decide|omega)) rfl (padN (a0 (pv 0)) (padN (a0 (pv 1)) a7)))) (t6 fF.nd rfl) (af (fG (i:=6) fF.nd rfl (au uM (a0 (pv 2)) (aS H_word_at (hr.mono (by first|decide|omega)) rfl (padN (a0 (pv 0)) (padN (a0 (pv 1)) (padN (a0 (pv 5)) a7)))))) (ah (gW PassesOwn.never rfl (yP rfl Z.range aa (bO (cJ rfl) rfl Z.len PySem.boot_len (bc (cb (pv 3)) bP))) (t6 fF.nd rfl) (ah (bp (y7.pt (jB (aE lC (aj (bu rfl) (aj (bu rfl) (a0 (pv 3)) (a0 (pv 7))) aa) (aj (bu rfl) (aj (bu rfl) (a0 (pv 3)) (a0 (pv 1))) aa)) (jU (aE bM (au nO (au uL (a0 (pv 6)) (a0 (pv 7))) aa) aa)))) (ah (dE (i:=4) (pv 4) (aA (padN (a0 (pv 5)) (padN (a0 (pv 7)) (padN (a0 (pv 6)) a7)))))) aO)))))) (aT (i:=4) (ah (ar (a0 (pv 4))))))))
theorem bE:aq oB dr (ag bS):=⟨rfl,rfl,rfl,by decide +kernel,rfl,by decide +kernel,by decide +kernel⟩
theorem Fw:lT E4 Iq:=Ek rfl rfl rfl (by decide +kernel) rfl (by decide +kernel) (by decide +kernel) (by decide +kernel)
theorem nQ(L:B5 K mg "highest_stands" bS dr CC)(hC:PySem.W.CodeHd base CC PT)(hB:ya mg base)(Z:gM mg)(H_steps_up:dR P w K mg base (Γc K cls) 3 "steps_up" gB cX):Da P w K mg base (Γc K cls) 4 "highest_stands" dr bT:=CK (k:=3) (j:=1) L bE (by decide) λf A outer s H E hr=>(af (fG (i:=2) bE.nd rfl (cA a7)) (af (fG (i:=3) bE.nd rfl aa) (af (fG (i:=4) bE.nd rfl aa) (af (sY (λ_=>5000) PassesOwn.never (aE lC (yS (i:=1) (xn hr) (pv 1) (qp (W:=W0) (padN (a0 (pv 3)) (padN (a0 (pv 4)) a7)))) aa) (af (fG (i:=5) bE.nd rfl (FW (i:=1) (k:=0) (L:=Iq) (P:=PT) (cc:=CC) (good:=good) (N:=E4) rfl rfl rfl Z.max (aS H_steps_up (hr.mono (by first|decide|omega)) rfl (padN (a0 (pv 0)) (padN (a0 (pv 3)) (padN (a0 (pv 4)) a7)))) rfl rfl IU CI hC rfl hB (show("highest_stands":Str) ++ ".<locals>." ++ "<lambda>" = Iq.qual from by decide +kernel) rfl rfl rfl Fw rfl rfl (λ_ _ _ _ _=>rfl) (hr.mono (by first|decide|omega)) (λA outer s H f c clos hr=>(yS (i:=1) (xn hr) (pv 1) (qp (W:=W0) (c6 (aj (bu rfl) (a0 (pv 0)) aa) (c6 (aj (bu rfl) (a0 (pv 0)) aa) a7))))))) (af (dE (i:=2) (pv 2) (aA (padN (a0 (pv 3)) (c6 (aj (bu rfl) (a0 (pv 5)) aa) (cU aa a7))))) (af (fG (i:=3) bE.nd rfl (aj (bu rfl) (a0 (pv 5)) aa)) (ah (fG (i:=4) bE.nd rfl (aj (bu rfl) (a0 (pv 5)) aa))))))) (aT (i:=2) (ah (wu (j:=1) (au (az rfl) (a0 (pv 2)) (cA (j7 (aA (padN (a0 (pv 3)) (cU aa (cU aa a7)))) a7))))))))))
theorem mK:aq BY jY (ag m6):=⟨rfl,rfl,rfl,by decide +kernel,rfl,by decide +kernel,by decide +kernel⟩
theorem yY(L:bz K mg "measure" m6 jY)(Z:gM mg)(H_steps_up:dR P w K mg base (Γc K cls) 3 "steps_up" gB cX):Da P w K mg base (Γc K cls) 16 "measure" jY gH:=xC (k:=4) (j:=3) L mK (by decide) (λf G j hj hG cdv A outer s H E hr=>(af (bp (yF (i:=3) (xn hr) (pv 3) (qp (W:=W0) (padN (a0 (pv 1)) (padN (a0 (pv 2)) a7)))) (af (BF (i:=4) mK.nd rfl (by first|exact Or.inl rfl|exact Or.inr rfl) (js:=[5]) (vars:=[".0","step"]) (dz 5) (by rfl) (by rfl) rfl (fz rfl (aS H_steps_up (hr.mono (by first|decide|omega)) rfl (padN (a0 (pv 0)) (padN (a0 (pv 1)) (padN (a0 (pv 2)) a7))))) (λ_ _ _ _=>(t6 mK.nd rfl)) (λ_ _ _ _=>(JK (az rfl) (GQ (i:=3) hG hr rfl (j6 (a0 (pv 0)) (j6 (aj (bu rfl) (a0 (pv 5)) aa) (j6 (aj (bu rfl) (a0 (pv 5)) aa) (qA (pv 3) a7))))) aa))) (aT (i:=4) (ah (BE (i:=3) (xn hr) (pv 3) (qp (W:=W0) (padN (a0 (pv 1)) (padN (a0 (pv 2)) a7))) (FX rfl rfl rfl Z.max (a0 (pv 4))))))) aO) (ah (wu (j:=3) (yS (i:=3) (xn hr) (pv 3) (qp (W:=W0) (padN (a0 (pv 1)) (padN (a0 (pv 2)) a7)))))))) 12
theorem yy:aq Ca k6 (ag m9):=⟨rfl,rfl,rfl,by decide +kernel,rfl,by decide +kernel,by decide +kernel⟩
theorem z0(L:bz K mg "entered" m9 k6)(Z:gM mg)  : dR P w K mg base (Γc K cls) 1 "entered" k6 kj:=b9 (k:=0) L yy λf cdv A outer s H E hr=>(ah (ar (au (az rfl) (a0 (pv 0)) (aA (j7 (aA (padN (a0 (pv 1)) (cU aa (cU aa (j7 (aA a7) a7))))) a7)))))
theorem kA:aq BX jX (ag m5):=⟨rfl,rfl,rfl,by decide +kernel,rfl,by decide +kernel,by decide +kernel⟩
theorem yX(L:bz K mg "shut_by" m5 jX)(Z:gM mg)(H_word_at:dR P w K mg base (Γc K cls) 2 "word_at" iW fL):dR P w K mg base (Γc K cls) 3 "shut_by" jX mm:=b9 (k:=2) L kA λf cdv A outer s H E hr=>(af (fG (i:=2) kA.nd rfl aa) (af (gW PassesOwn.never rfl (fz rfl (a0 (pv 1))) (t6 kA.nd rfl) (ah (fG (i:=2) kA.nd rfl (au uM (a0 (pv 2)) (aS H_word_at (hr.mono (by first|decide|omega)) rfl (padN (a0 (pv 0)) (c6 (aj (bu rfl) (a0 (pv 3)) aa) (c6 (aj (bu rfl) (a0 (pv 3)) aa) a7)))))))) (ah (ar (a0 (pv 2))))))
theorem nz:aq wN hZ (ag jt):=⟨rfl,rfl,rfl,by decide +kernel,rfl,by decide +kernel,by decide +kernel⟩
theorem uP(L:bz K mg "may_enter" jt hZ)(Z:gM mg)(H_shut_by:dR P w K mg base (Γc K cls) 3 "shut_by" jX mm):dR P w K mg base (Γc K cls) 4 "may_enter" hZ ib:=b9 (k:=3) L nz λf cdv A outer s H E hr=>(af (fG (i:=3) nz.nd rfl (aj (bu rfl) (a0 (pv 0)) aa)) (ah (ar (uJ (uI lC (aj (bu rfl) (aj (bu rfl) (a0 (pv 3)) (a0 (pv 2))) aa) (aj (bu rfl) (aj (bu rfl) (a0 (pv 3)) (aj (bu rfl) (aj (bu rfl) (a0 (pv 1)) qy) aa)) aa)) (yR (uI bM (au nO (au uL (aS H_shut_by (hr.mono (by first|decide|omega)) rfl (padN (a0 (pv 0)) (padN (a0 (pv 1)) a7))) (a0 (pv 2))) aa) aa))))))
theorem kz:aq wL hV (ag jq):=⟨rfl,rfl,rfl,by decide +kernel,rfl,by decide +kernel,by decide +kernel⟩
theorem uN(L:bz K mg "starts_of" jq hV)(Z:gM mg)  : dR P w K mg base (Γc K cls) 1 "starts_of" hV jD:=b9 (k:=0) L kz λf cdv A outer s H E hr=>(af (fG (i:=1) kz.nd rfl (cA a7)) (af (gW PassesOwn.never rfl (fz rfl (a0 (pv 0))) (t6 kz.nd rfl) (ah (yH (i:=1) rfl (pv 1) (aj (bu rfl) (a0 (pv 2)) aa)))) (aT (i:=1) (ah (ar (jV (eS rfl) rfl Z.tuple L3.dM (padN (a0 (pv 1)) a7)))))))
theorem yz:aq Cd k9 (ag me):=⟨rfl,rfl,rfl,by decide +kernel,rfl,by decide +kernel,by decide +kernel⟩
theorem za(L:bz K mg "deed_at" me k9)(Z:gM mg)(H_places_of:dR P w K mg base (Γc K cls) 1 "places_of" eM cQ):dR P w K mg base (Γc K cls) 2 "deed_at" k9 mr:=b9 (k:=1) L yz λf cdv A outer s H E hr=>(ah (ar (aj (bu rfl) (aj (bu rfl) (aS H_places_of (hr.mono (by first|decide|omega)) rfl (padN (a0 (pv 0)) (padN (a0 (pv 1)) a7))) (a0 (pv 2))) aa)))
theorem yw:aq BW jW (ag m3):=⟨rfl,rfl,rfl,by decide +kernel,rfl,by decide +kernel,by decide +kernel⟩
theorem yW(L:bz K mg "size_of" m3 jW)(Z:gM mg)  : dR P w K mg base (Γc K cls) 1 "size_of" jW iY:=b9 (k:=0) L yw λf cdv A outer s H E hr=>(ah (ar (bO (cJ rfl) rfl Z.len PySem.boot_len (bc (PD.look (aj (bu rfl) (aj (bu rfl) (a0 (pv 0)) (a0 (pv 1))) aa)) bP))))
theorem ll:aq zm jc (ag kJ):=⟨rfl,rfl,rfl,by decide +kernel,rfl,by decide +kernel,by decide +kernel⟩
theorem wJ(L:bz K mg "cells_of" kJ jc)(Z:gM mg)(H_size_of:dR P w K mg base (Γc K cls) 1 "size_of" jW iY):dR P w K mg base (Γc K cls) 2 "cells_of" jc gL:=b9 (k:=1) L ll λf cdv A outer s H E hr=>(af (fG (i:=2) ll.nd rfl (HZ (IW rfl rfl) rfl Z.sum L3.IX (cM (mh (js:=[3]) (vars:=[".0","k"]) (dz 3) (by rfl) (by rfl) rfl (fD rfl Z.range (a0 (pv 1))) (λ_ _ _ _=>(t6 ll.nd rfl)) (λ_ _ _ _=>(aS H_size_of (hr.mono (by first|decide|omega)) rfl (padN (a0 (pv 0)) (padN (a0 (pv 3)) a7))))) a7))) (ah (ar (uG rfl rfl Z.list rfl Z.range (a0 (pv 2)) (au (az rfl) (a0 (pv 2)) (aS H_size_of (hr.mono (by first|decide|omega)) rfl (padN (a0 (pv 0)) (padN (a0 (pv 1)) a7))))))))
theorem Bu:aq E7 fk (ag nE):=⟨rfl,rfl,rfl,by decide +kernel,rfl,by decide +kernel,by decide +kernel⟩
theorem BP(L:dO K mg cls "Deed" "Deed" "Deed.__init__" nE fk)(Z:gM mg)(H_fld_plan:∀c∈["Deed","Promise","Comparing","Untouched","Still","Put","Copy","Tick","Handed","Grow","Anew"],jR K (cls c)/\cq K (cls c) "plan"):cz P w K mg base (Γc K cls) 1 "Deed" "Deed" fk gg:=du (k:=0) L Bu (by decide) λf cdv A outer s H E hr=>(cF (qj (cs:=["Deed","Promise","Comparing","Untouched","Still","Put","Copy","Tick","Handed","Grow","Anew"]) rfl H_fld_plan (pv 0) (a0 (pv 1))) fV)
theorem lh:aq zl gC (ag kI):=⟨rfl,rfl,rfl,by decide +kernel,rfl,by decide +kernel,by decide +kernel⟩
theorem wI(L:dO K mg cls "Handed" "Handed" "Handed.__init__" kI gC)(Z:gM mg)(H_i_Deed:cz P w K mg base (Γc K cls) 1 "Deed" "Deed" fk gg):cz P w K mg base (Γc K cls) 2 "Handed" "Handed" gC ke:=du (k:=1) L lh (by decide) λf cdv A outer s H E hr=>(cF (gU H_i_Deed (hr.mono (by decide)) rfl (pv 0) (cV (au (az rfl) (mh (js:=[3]) (vars:=[".0","cell"]) (dz 3) (by rfl) (by rfl) rfl (fz rfl (a0 (pv 1))) (λ_ _ _ _=>(t6 lh.nd rfl)) (λ_ _ _ _=>(aA (j7 (aA (padN (a0 (pv 3)) a7)) (j7 (aA a7) a7))))) (mh (js:=[3]) (vars:=[".0","cell"]) (dz 3) (by rfl) (by rfl) rfl (fz rfl (a0 (pv 2))) (λ_ _ _ _=>(t6 lh.nd rfl)) (λ_ _ _ _=>(aA (j7 (aA a7) (j7 (aA (padN (a0 (pv 3)) a7)) a7)))))) a7)) fV)
theorem Bv:aq E9 lB (ag nG):=⟨rfl,rfl,rfl,by decide +kernel,rfl,by decide +kernel,by decide +kernel⟩
theorem BR(L:dO K mg cls "Anew" "Anew" "Anew.__init__" nG lB)(Z:gM mg)(H_fld_check:∀c∈["Anew"],jR K (cls c)/\cq K (cls c) "check")(H_i_Handed:cz P w K mg base (Γc K cls) 2 "Handed" "Handed" gC ke):cz P w K mg base (Γc K cls) 3 "Anew" "Anew" lB zL:=du (k:=2) L Bv (by decide) λf cdv A outer s H E hr=>(cF (gU H_i_Handed (hr.mono (by decide)) rfl (pv 0) (cV (au (az rfl) (au (az rfl) (cA (padN (a0 (pv 3)) a7)) (a0 (pv 2))) (cA (padN (a0 (pv 3)) a7))) (padN (a0 (pv 1)) a7))) (cF (qj (cs:=["Anew"]) rfl H_fld_check (pv 0) (au (az rfl) (bO (cJ rfl) rfl Z.len PySem.boot_len (bc (cb (pv 2)) bP)) aa)) fV))
theorem uv:aq wV fJ (ag jy):=⟨rfl,rfl,rfl,by decide +kernel,rfl,by decide +kernel,by decide +kernel⟩
theorem uU(L:dO K mg cls "Promise" "Promise" "Promise.__init__" jy fJ)(Z:gM mg)(H_i_Deed:cz P w K mg base (Γc K cls) 1 "Deed" "Deed" fk gg):cz P w K mg base (Γc K cls) 2 "Promise" "Promise" fJ iX:=du (k:=1) L uv (by decide) λf cdv A outer s H E hr=>(cF (gU H_i_Deed (hr.mono (by decide)) rfl (pv 0) (cM (cA (j7 (aA (iJ (jV (eS rfl) rfl Z.tuple L3.dM (padN (a0 (pv 1)) a7)) (j7 (aA a7) a7))) a7)) a7)) fV)
theorem qc:aq sj fm (ag gQ):=⟨rfl,rfl,rfl,by decide +kernel,rfl,by decide +kernel,by decide +kernel⟩
theorem qI(L:dO K mg cls "Comparing" "Comparing" "Comparing.__init__" gQ fm)(Z:gM mg)(H_i_Promise:cz P w K mg base (Γc K cls) 2 "Promise" "Promise" fJ iX):cz P w K mg base (Γc K cls) 3 "Comparing" "Comparing" fm lH:=du (k:=2) L qc (by decide) λf cdv A outer s H E hr=>(cF (gU H_i_Promise (hr.mono (by decide)) rfl (pv 0) (iJ (uF rfl rfl rfl Z.sorted rfl Z.set (au (az rfl) (a0 (pv 1)) (a0 (pv 2)))) a7)) fV)
theorem sT:aq E8 lA (ag nF):=⟨rfl,rfl,rfl,by decide +kernel,rfl,by decide +kernel,by decide +kernel⟩
theorem BQ(L:dO K mg cls "Copy" "Copy" "Copy.__init__" nF lA)(Z:gM mg)(H_i_Deed:cz P w K mg base (Γc K cls) 1 "Deed" "Deed" fk gg):cz P w K mg base (Γc K cls) 2 "Copy" "Copy" lA zK:=du (k:=1) L sT (by decide) λf cdv A outer s H E hr=>(cF (gU H_i_Deed (hr.mono (by decide)) rfl (pv 0) (cM (mh (js:=[3]) (vars:=[".0","k"]) (dz 3) (by rfl) (by rfl) rfl (fD rfl Z.range (bO (cJ rfl) rfl Z.len PySem.boot_len (bc (cb (pv 1)) bP))) (λ_ _ _ _=>(t6 sT.nd rfl)) (λ_ _ _ _=>(aA (j7 (aA (c6 (aj (bu rfl) (a0 (pv 2)) (a0 (pv 3))) a7)) (j7 (aA (c6 (aj (bu rfl) (a0 (pv 1)) (a0 (pv 3))) a7)) a7))))) a7)) fV)
theorem Bt:aq E6 lz (ag nD):=⟨rfl,rfl,rfl,by decide +kernel,rfl,by decide +kernel,by decide +kernel⟩
theorem BO(L:dO K mg cls "Grow" "Grow" "Grow.__init__" nD lz)(Z:gM mg)(H_fld_number:∀c∈["Grow"],jR K (cls c)/\cq K (cls c) "number")(H_fld_size:∀c∈["Grow"],jR K (cls c)/\cq K (cls c) "size")(H_i_Handed:cz P w K mg base (Γc K cls) 2 "Handed" "Handed" gC ke):cz P w K mg base (Γc K cls) 3 "Grow" "Grow" lz zJ:=du (k:=2) L Bt (by decide) λf cdv A outer s H E hr=>(cF (gU H_i_Handed (hr.mono (by decide)) rfl (pv 0) (padN (a0 (pv 1)) (padN (a0 (pv 1)) a7))) (cF (qj (cs:=["Grow"]) rfl H_fld_size (pv 0) (bO (cJ rfl) rfl Z.len PySem.boot_len (bc (cb (pv 1)) bP))) (cF (qj (cs:=["Grow"]) rfl H_fld_number (pv 0) (a0 (pv 2))) fV)))
theorem wa:aq G6 nM (ag pE):=⟨rfl,rfl,rfl,by decide +kernel,rfl,by decide +kernel,by decide +kernel⟩
theorem DY(L:dO K mg cls "Put" "Put" "Put.__init__" pE nM)(Z:gM mg)(H_fld_numbers:∀c∈["Put"],jR K (cls c)/\cq K (cls c) "numbers")(H_i_Deed:cz P w K mg base (Γc K cls) 1 "Deed" "Deed" fk gg):cz P w K mg base (Γc K cls) 2 "Put" "Put" nM ED:=du (k:=1) L wa (by decide) λf cdv A outer s H E hr=>(cF (gU H_i_Deed (hr.mono (by decide)) rfl (pv 0) (cM (mh (js:=[3]) (vars:=[".0","cell"]) (dz 3) (by rfl) (by rfl) rfl (fz rfl (a0 (pv 1))) (λ_ _ _ _=>(t6 wa.nd rfl)) (λ_ _ _ _=>(aA (j7 (aA a7) (j7 (aA (padN (a0 (pv 3)) a7)) a7))))) a7)) (cF (qj (cs:=["Put"]) rfl H_fld_numbers (pv 0) (jV (eS rfl) rfl Z.tuple L3.dM (padN (a0 (pv 2)) a7))) fV))
theorem yx:aq BZ jZ (ag m7):=⟨rfl,rfl,rfl,by decide +kernel,rfl,by decide +kernel,by decide +kernel⟩
theorem yZ(L:dO K mg cls "Still" "Still" "Still.__init__" m7 jZ)(Z:gM mg)(H_i_Deed:cz P w K mg base (Γc K cls) 1 "Deed" "Deed" fk gg):cz P w K mg base (Γc K cls) 2 "Still" "Still" jZ vw:=du (k:=1) L yx (by decide) λf cdv A outer s H E hr=>(cF (gU H_i_Deed (hr.mono (by decide)) rfl (pv 0) (cV (HV (cA (j7 (aA (j7 (aA a7) (j7 (aA a7) a7))) a7)) (a0 (pv 1))) a7)) fV)
theorem Bs:aq E5 ly (ag nC):=⟨rfl,rfl,rfl,by decide +kernel,rfl,by decide +kernel,by decide +kernel⟩
theorem BN(L:dO K mg cls "Tick" "Tick" "Tick.__init__" nC ly)(Z:gM mg)(H_i_Deed:cz P w K mg base (Γc K cls) 1 "Deed" "Deed" fk gg):cz P w K mg base (Γc K cls) 2 "Tick" "Tick" ly zI:=du (k:=1) L Bs (by decide) λf cdv A outer s H E hr=>(cF (gU H_i_Deed (hr.mono (by decide)) rfl (pv 0) (cM (cA (j7 (aA (j7 (aA (padN (a0 (pv 1)) a7)) (j7 (aA (padN (a0 (pv 1)) a7)) a7))) a7)) a7)) fV)
theorem q8:aq si fj (ag gP):=⟨rfl,rfl,rfl,by decide +kernel,rfl,by decide +kernel,by decide +kernel⟩
theorem qH(L:dO K mg cls "Untouched" "Untouched" "Untouched.__init__" gP fj)(Z:gM mg)(H_i_Promise:cz P w K mg base (Γc K cls) 2 "Promise" "Promise" fJ iX):cz P w K mg base (Γc K cls) 3 "Untouched" "Untouched" fj lF:=du (k:=2) L q8 (by decide) λf cdv A outer s H E hr=>(cF (gU H_i_Promise (hr.mono (by decide)) rfl (pv 0) (cM (cA a7) a7)) fV)
theorem kB:aq Cc k8 (ag md):=⟨rfl,rfl,rfl,by decide +kernel,rfl,by decide +kernel,by decide +kernel⟩
theorem z9(L:bz K mg "deed_of" md k8)(Z:gM mg)(H_cells_of:dR P w K mg base (Γc K cls) 2 "cells_of" jc gL)(H_i_Anew:cz P w K mg base (Γc K cls) 3 "Anew" "Anew" lB zL)(H_i_Comparing:cz P w K mg base (Γc K cls) 3 "Comparing" "Comparing" fm lH)(H_i_Copy:cz P w K mg base (Γc K cls) 2 "Copy" "Copy" lA zK)(H_i_Grow:cz P w K mg base (Γc K cls) 3 "Grow" "Grow" lz zJ)(H_i_Put:cz P w K mg base (Γc K cls) 2 "Put" "Put" nM ED)(H_i_Still:cz P w K mg base (Γc K cls) 2 "Still" "Still" jZ vw)(H_i_Tick:cz P w K mg base (Γc K cls) 2 "Tick" "Tick" ly zI)(H_i_Untouched:cz P w K mg base (Γc K cls) 3 "Untouched" "Untouched" fj lF):dR P w K mg base (Γc K cls) 5 "deed_of" k8 mq:=b9 (k:=4) L kB λf cdv A outer s H E hr=>(af (fG (i:=2) kB.nd rfl (aj (bu rfl) (a0 (pv 1)) aa)) (af (bp (aE bM (a0 (pv 2)) c5) (ah (ar (kL H_i_Still (hr.mono (by decide)) rfl (c6 (aj (bu rfl) (a0 (pv 1)) aa) a7)))) aO) (af (bp (aE bM (a0 (pv 2)) c5) (ah (ar (DS H_i_Untouched (hr.mono (by decide)) rfl))) aO) (af (fG (i:=3) kB.nd rfl (aS H_cells_of (hr.mono (by first|decide|omega)) rfl (padN (a0 (pv 0)) (c6 (aj (bu rfl) (a0 (pv 1)) aa) a7)))) (af (bp (aE bM (a0 (pv 2)) c5) (aT (i:=3) (ah (ar (kL H_i_Put (hr.mono (by decide)) rfl (padN (a0 (pv 3)) (c6 (aj (bu rfl) (a0 (pv 1)) aa) a7)))))) aO) (af (bp (aE bM (a0 (pv 2)) c5) (aT (i:=3) (ah (ar (kL H_i_Grow (hr.mono (by decide)) rfl (padN (a0 (pv 3)) (c6 (aj (bu rfl) (a0 (pv 1)) aa) a7)))))) aO) (af (bp (aE bM (a0 (pv 2)) c5) (aT (i:=3) (ah (ar (kL H_i_Tick (hr.mono (by decide)) rfl (c6 (aj (bu rfl) (a0 (pv 3)) aa) a7))))) aO) (af (fG (i:=4) kB.nd rfl (aS H_cells_of (hr.mono (by first|decide|omega)) rfl (padN (a0 (pv 0)) (c6 (aj (bu rfl) (a0 (pv 1)) aa) a7)))) (af (bp (aE bM (a0 (pv 2)) c5) (aT (i:=4) (aT (i:=3) (ah (ar (kL H_i_Copy (hr.mono (by decide)) rfl (padN (a0 (pv 3)) (padN (a0 (pv 4)) a7))))))) aO) (af (bp (aE bM (a0 (pv 2)) c5) (aT (i:=4) (aT (i:=3) (ah (ar (kL H_i_Anew (hr.mono (by decide)) rfl (padN (a0 (pv 3)) (padN (a0 (pv 4)) (c6 (aj (bu rfl) (aS H_cells_of (hr.mono (by first|decide|omega)) rfl (padN (a0 (pv 0)) (c6 (aj (bu rfl) (a0 (pv 1)) aa) a7))) aa) a7)))))))) aO) (aT (i:=4) (aT (i:=3) (ah (ar (kL H_i_Comparing (hr.mono (by decide)) rfl (padN (a0 (pv 3)) (padN (a0 (pv 4)) a7)))))))))))))))))
theorem ur:aq wU i8 (ag jx):=⟨rfl,rfl,rfl,by decide +kernel,rfl,by decide +kernel,by decide +kernel⟩
theorem uT(L:bz K mg "is_at_end" jx i8)(Z:gM mg)(H_places_of:dR P w K mg base (Γc K cls) 1 "places_of" eM cQ):dR P w K mg base (Γc K cls) 2 "is_at_end" i8 dB:=b9 (k:=1) L ur λf cdv A outer s H E hr=>(ah (ar (uI bM (aj (bu rfl) (a0 (pv 1)) aa) (bO (cJ rfl) rfl Z.len PySem.boot_len (bc (PD.look (aS H_places_of (hr.mono (by first|decide|omega)) rfl (padN (a0 (pv 0)) (c6 (aj (bu rfl) (a0 (pv 1)) aa) a7)))) bP)))))
theorem rN:aq v7 dF (ag iF):=⟨rfl,rfl,rfl,by decide +kernel,rfl,by decide +kernel,by decide +kernel⟩
theorem rX(L:dN K cls "reads" "Deed.reads" iF dF ["Deed","Promise","Comparing","Untouched","Still","Put","Copy","Tick","Handed","Grow","Anew"])(Z:gM mg)(H_fld_plan:∀c∈["Deed","Promise","Comparing","Untouched","Still","Put","Copy","Tick","Handed","Grow","Anew"],jR K (cls c)/\cq K (cls c) "plan"):cy P w K mg base (Γc K cls) 1 "reads" dF dG ["Deed","Promise","Comparing","Untouched","Still","Put","Copy","Tick","Handed","Grow","Anew"]:=dt (k:=0) L rN λf cdv A outer s H E hr=>(ah (ar (jV (AX rfl) rfl Z.list L3.vJ (c6 (aj (bu rfl) (aj (bu rfl) (jL (cs:=["Deed","Promise","Comparing","Untouched","Still","Put","Copy","Tick","Handed","Grow","Anew"]) rfl H_fld_plan (a0 (pv 0))) (a0 (pv 1))) aa) a7))))
theorem qd:aq sk dS (ag gR):=⟨rfl,rfl,rfl,by decide +kernel,rfl,by decide +kernel,by decide +kernel⟩
theorem qJ(L:dN K cls "laid" "Handed.laid" gR dS ["Handed","Grow","Anew"])(Z:gM mg)(H_Deed_reads:cy P w K mg base (Γc K cls) 1 "reads" dF dG ["Deed","Promise","Comparing","Untouched","Still","Put","Copy","Tick","Handed","Grow","Anew"]):cy P w K mg base (Γc K cls) 2 "laid" dS dW ["Handed","Grow","Anew"]:=dt (k:=1) L qd λf cdv A outer s H E hr=>(ah (ar (aA (padN (a0 (pv 2)) (cV (au (az rfl) (a0 (pv 3)) (aA (c6 (aj (bu rfl) (a0 (pv 2)) (aj (bu rfl) (fA (tb:=fQ) (bB H_Deed_reads (hr.mono (by decide)) dZ) (a0 (pv 0)) (padN (a0 (pv 1)) a7)) aa)) a7))) (cV (au (az rfl) (a0 (pv 1)) aa) a7))))))
theorem yv:aq BU fH (ag lY):=⟨rfl,rfl,rfl,by decide +kernel,rfl,by decide +kernel,by decide +kernel⟩
theorem yU(L:bz K mg "written" lY fH)(Z:gM mg)  : dR P w K mg base (Γc K cls) 1 "written" fH dU:=b9 (k:=0) L yv λf cdv A outer s H E hr=>(ah (ar (au (az rfl) (au (az rfl) (fW rfl (a0 (pv 0)) j5 (eJ (a0 (pv 1)))) (aA (padN (a0 (pv 2)) a7))) (fW rfl (a0 (pv 0)) (eJ (au (az rfl) (a0 (pv 1)) aa)) j5))))
theorem rM:aq v5 eZ (ag iE):=⟨rfl,rfl,rfl,by decide +kernel,rfl,by decide +kernel,by decide +kernel⟩
theorem rW(L:dN K cls "turns" "Deed.turns" iE eZ ["Deed","Promise","Comparing","Untouched","Still","Put","Copy","Tick","Handed","Grow","Anew"])(Z:gM mg)(H_fld_plan:∀c∈["Deed","Promise","Comparing","Untouched","Still","Put","Copy","Tick","Handed","Grow","Anew"],jR K (cls c)/\cq K (cls c) "plan"):cy P w K mg base (Γc K cls) 1 "turns" eZ fb ["Deed","Promise","Comparing","Untouched","Still","Put","Copy","Tick","Handed","Grow","Anew"]:=dt (k:=0) L rM λf cdv A outer s H E hr=>(ah (ar (bO (cJ rfl) rfl Z.len PySem.boot_len (bc (PD.look (jL (cs:=["Deed","Promise","Comparing","Untouched","Still","Put","Copy","Tick","Handed","Grow","Anew"]) rfl H_fld_plan (a0 (pv 0)))) bP))))
theorem qe:aq sr cD (ag gT):=⟨rfl,rfl,rfl,by decide +kernel,rfl,by decide +kernel,by decide +kernel⟩
theorem qK(L:dN K cls "writes" "Deed.writes" gT cD ["Deed","Promise","Comparing","Untouched","Still","Put","Copy","Tick","Handed","Grow","Anew"])(Z:gM mg)(H_fld_plan:∀c∈["Deed","Promise","Comparing","Untouched","Still","Put","Copy","Tick","Handed","Grow","Anew"],jR K (cls c)/\cq K (cls c) "plan"):cy P w K mg base (Γc K cls) 1 "writes" cD cE ["Deed","Promise","Comparing","Untouched","Still","Put","Copy","Tick","Handed","Grow","Anew"]:=dt (k:=0) L qe λf cdv A outer s H E hr=>(ah (ar (jV (AX rfl) rfl Z.list L3.vJ (c6 (aj (bu rfl) (aj (bu rfl) (jL (cs:=["Deed","Promise","Comparing","Untouched","Still","Put","Copy","Tick","Handed","Grow","Anew"]) rfl H_fld_plan (a0 (pv 0))) (a0 (pv 1))) aa) a7))))
theorem fC:aq nT cf (ag ee):=⟨rfl,rfl,rfl,by decide +kernel,rfl,by decide +kernel,by decide +kernel⟩
theorem mS(L:dN K cls "set_down" "Handed.set_down" ee cf ["Handed","Grow","Anew"])(Z:gM mg)(H_written:dR P w K mg base (Γc K cls) 1 "written" fH dU)(H_Deed_turns:cy P w K mg base (Γc K cls) 1 "turns" eZ fb ["Deed","Promise","Comparing","Untouched","Still","Put","Copy","Tick","Handed","Grow","Anew"])(H_Deed_writes:cy P w K mg base (Γc K cls) 1 "writes" cD cE ["Deed","Promise","Comparing","Untouched","Still","Put","Copy","Tick","Handed","Grow","Anew"]):cy P w K mg base (Γc K cls) 2 "set_down" cf cj ["Handed","Grow","Anew"]:=dt (k:=1) L fC λf cdv A outer s H E hr=>(af (fG (i:=5) fC.nd rfl (au (az rfl) (a0 (pv 1)) aa)) (af (fG (i:=6) fC.nd rfl (qz (aE bM (a0 (pv 5)) (wz (tb:=hJ) (bB H_Deed_turns (hr.mono (by decide)) dZ) (a0 (pv 0)))) (aA a7) (a0 (pv 3)))) (ah (ar (aA (iJ (aS H_written (hr.mono (by first|decide|omega)) rfl (padN (a0 (pv 2)) (c6 (aj (bu rfl) (fA (tb:=dn) (bB H_Deed_writes (hr.mono (by decide)) dZ) (a0 (pv 0)) (padN (a0 (pv 1)) a7)) aa) (padN (a0 (pv 4)) a7)))) (padN (a0 (pv 6)) (padN (a0 (pv 5)) a7))))))))
theorem rP:aq va g8 (ag iI):=⟨rfl,rfl,rfl,by decide +kernel,rfl,by decide +kernel,by decide +kernel⟩
theorem se(L:dN K cls "after" "Anew.after" iI g8 ["Anew"])(Z:gM mg)(H_fld_check:∀c∈["Anew"],jR K (cls c)/\cq K (cls c) "check")(H_Deed_reads:cy P w K mg base (Γc K cls) 1 "reads" dF dG ["Deed","Promise","Comparing","Untouched","Still","Put","Copy","Tick","Handed","Grow","Anew"])(H_Handed_laid:cy P w K mg base (Γc K cls) 2 "laid" dS dW ["Handed","Grow","Anew"])(H_Handed_set_down:cy P w K mg base (Γc K cls) 2 "set_down" cf cj ["Handed","Grow","Anew"]):cy P w K mg base (Γc K cls) 3 "after" g8 iS ["Anew"]:=dt (k:=2) L rP λf cdv A outer s H E hr=>(af (bp (aE qD (a0 (pv 1)) (jL (cs:=["Anew"]) rfl H_fld_check (a0 (pv 0)))) (ah (ar (fA (tb:=lX) (bB H_Handed_laid (hr.mono (by decide)) dZ) (a0 (pv 0)) (padN (a0 (pv 1)) (padN (a0 (pv 2)) (padN (a0 (pv 3)) a7)))))) aO) (af (bp (aE lC (a0 (pv 1)) (jL (cs:=["Anew"]) rfl H_fld_check (a0 (pv 0)))) (ah (ar (fA (tb:=fE) (bB H_Handed_set_down (hr.mono (by decide)) dZ) (a0 (pv 0)) (padN (a0 (pv 1)) (padN (a0 (pv 2)) (padN (a0 (pv 3)) (c6 (aj (bu rfl) (a0 (pv 3)) (au iK (a0 (pv 1)) (jL (cs:=["Anew"]) rfl H_fld_check (a0 (pv 0))))) a7))))))) aO) (af (bp (aE bM (aj (bu rfl) (a0 (pv 2)) (aj (bu rfl) (fA (tb:=fQ) (bB H_Deed_reads (hr.mono (by decide)) dZ) (a0 (pv 0)) (padN (a0 (pv 1)) a7)) aa)) (aj (bu rfl) (a0 (pv 3)) aa)) (ah (ar (aA (padN (a0 (pv 2)) (padN (a0 (pv 3)) (cV (au (az rfl) (a0 (pv 1)) aa) a7)))))) aO) (ah (ar (aA (padN (a0 (pv 2)) (j7 (aA a7) (cU aa a7)))))))))
theorem mB:aq v9 g7 (ag iH):=⟨rfl,rfl,rfl,by decide +kernel,rfl,by decide +kernel,by decide +kernel⟩
theorem rZ(L:dN K cls "after" "Copy.after" iH g7 ["Copy"])(Z:gM mg)(H_written:dR P w K mg base (Γc K cls) 1 "written" fH dU)(H_Deed_reads:cy P w K mg base (Γc K cls) 1 "reads" dF dG ["Deed","Promise","Comparing","Untouched","Still","Put","Copy","Tick","Handed","Grow","Anew"])(H_Deed_writes:cy P w K mg base (Γc K cls) 1 "writes" cD cE ["Deed","Promise","Comparing","Untouched","Still","Put","Copy","Tick","Handed","Grow","Anew"]):cy P w K mg base (Γc K cls) 2 "after" g7 iR ["Copy"]:=dt (k:=1) L mB λf cdv A outer s H E hr=>(af (fG (i:=4) mB.nd rfl (aj (bu rfl) (a0 (pv 2)) (aj (bu rfl) (fA (tb:=fQ) (bB H_Deed_reads (hr.mono (by decide)) dZ) (a0 (pv 0)) (padN (a0 (pv 1)) a7)) aa))) (ah (ar (aA (iJ (aS H_written (hr.mono (by first|decide|omega)) rfl (padN (a0 (pv 2)) (c6 (aj (bu rfl) (fA (tb:=dn) (bB H_Deed_writes (hr.mono (by decide)) dZ) (a0 (pv 0)) (padN (a0 (pv 1)) a7)) aa) (padN (a0 (pv 4)) a7)))) (padN (a0 (pv 3)) (cV (au (az rfl) (a0 (pv 1)) aa) a7)))))))
theorem rO:aq v8 fZ (ag iG):=⟨rfl,rfl,rfl,by decide +kernel,rfl,by decide +kernel,by decide +kernel⟩
theorem rY(L:dN K cls "after" "Deed.after" iG fZ ["Deed","Promise","Comparing","Untouched","Still","Handed"])(Z:gM mg)  : cy P w K mg base (Γc K cls) 1 "after" fZ dH ["Deed","Promise","Comparing","Untouched","Still","Handed"]:=dt (k:=0) L rO λf cdv A outer s H E hr=>(ah (ar (aA (padN (a0 (pv 2)) (padN (a0 (pv 3)) (cV (au (az rfl) (a0 (pv 1)) aa) a7))))))
theorem rL:aq v3 fY (ag iD):=⟨rfl,rfl,rfl,by decide +kernel,rfl,by decide +kernel,by decide +kernel⟩
theorem rV(L:dN K cls "after" "Grow.after" iD fY ["Grow"])(Z:gM mg)(H_fld_number:∀c∈["Grow"],jR K (cls c)/\cq K (cls c) "number")(H_fld_size:∀c∈["Grow"],jR K (cls c)/\cq K (cls c) "size")(H_Handed_laid:cy P w K mg base (Γc K cls) 2 "laid" dS dW ["Handed","Grow","Anew"])(H_Handed_set_down:cy P w K mg base (Γc K cls) 2 "set_down" cf cj ["Handed","Grow","Anew"]):cy P w K mg base (Γc K cls) 3 "after" fY iQ ["Grow"]:=dt (k:=2) L rL λf cdv A outer s H E hr=>(af (bp (aE qD (a0 (pv 1)) (jL (cs:=["Grow"]) rfl H_fld_size (a0 (pv 0)))) (ah (ar (fA (tb:=lX) (bB H_Handed_laid (hr.mono (by decide)) dZ) (a0 (pv 0)) (padN (a0 (pv 1)) (padN (a0 (pv 2)) (padN (a0 (pv 3)) a7)))))) aO) (ah (ar (fA (tb:=fE) (bB H_Handed_set_down (hr.mono (by decide)) dZ) (a0 (pv 0)) (padN (a0 (pv 1)) (padN (a0 (pv 2)) (padN (a0 (pv 3)) (cV (au (az rfl) (aj (bu rfl) (a0 (pv 3)) (au iK (a0 (pv 1)) (jL (cs:=["Grow"]) rfl H_fld_size (a0 (pv 0))))) (jL (cs:=["Grow"]) rfl H_fld_number (a0 (pv 0)))) a7))))))))
theorem uw:aq wW i9 (ag jA):=⟨rfl,rfl,rfl,by decide +kernel,rfl,by decide +kernel,by decide +kernel⟩
theorem uV(L:dN K cls "after" "Put.after" jA i9 ["Put"])(Z:gM mg)(H_written:dR P w K mg base (Γc K cls) 1 "written" fH dU)(H_fld_numbers:∀c∈["Put"],jR K (cls c)/\cq K (cls c) "numbers")(H_Deed_writes:cy P w K mg base (Γc K cls) 1 "writes" cD cE ["Deed","Promise","Comparing","Untouched","Still","Put","Copy","Tick","Handed","Grow","Anew"]):cy P w K mg base (Γc K cls) 2 "after" i9 jG ["Put"]:=dt (k:=1) L uw λf cdv A outer s H E hr=>(ah (ar (aA (iJ (aS H_written (hr.mono (by first|decide|omega)) rfl (padN (a0 (pv 2)) (c6 (aj (bu rfl) (fA (tb:=dn) (bB H_Deed_writes (hr.mono (by decide)) dZ) (a0 (pv 0)) (padN (a0 (pv 1)) a7)) aa) (c6 (aj (bu rfl) (jL (cs:=["Put"]) rfl H_fld_numbers (a0 (pv 0))) (a0 (pv 1))) a7)))) (padN (a0 (pv 3)) (cV (au (az rfl) (a0 (pv 1)) aa) a7))))))
theorem mz:aq uZ fX (ag iC):=⟨rfl,rfl,rfl,by decide +kernel,rfl,by decide +kernel,by decide +kernel⟩
theorem rT(L:dN K cls "after" "Tick.after" iC fX ["Tick"])(Z:gM mg)(H_written:dR P w K mg base (Γc K cls) 1 "written" fH dU)(H_Deed_writes:cy P w K mg base (Γc K cls) 1 "writes" cD cE ["Deed","Promise","Comparing","Untouched","Still","Put","Copy","Tick","Handed","Grow","Anew"]):cy P w K mg base (Γc K cls) 2 "after" fX iP ["Tick"]:=dt (k:=1) L mz λf cdv A outer s H E hr=>(af (fG (i:=4) mz.nd rfl (aj (bu rfl) (fA (tb:=dn) (bB H_Deed_writes (hr.mono (by decide)) dZ) (a0 (pv 0)) (padN (a0 (pv 1)) a7)) aa)) (ah (ar (aA (iJ (aS H_written (hr.mono (by first|decide|omega)) rfl (padN (a0 (pv 2)) (padN (a0 (pv 4)) (cV (au (az rfl) (aj (bu rfl) (a0 (pv 2)) (a0 (pv 4))) aa) a7)))) (padN (a0 (pv 3)) (cV (au (az rfl) (a0 (pv 1)) aa) a7)))))))
theorem iV:aq E3 lx (ag nB):=⟨rfl,rfl,rfl,by decide +kernel,rfl,by decide +kernel,by decide +kernel⟩
theorem BM(L:bz K mg "turned" nB lx)(Z:gM mg)(H_deed_at:dR P w K mg base (Γc K cls) 2 "deed_at" k9 mr)(H_deed_of:dR P w K mg base (Γc K cls) 5 "deed_of" k8 mq)(H_is_at_end:dR P w K mg base (Γc K cls) 2 "is_at_end" i8 dB)(H_Anew_after:cy P w K mg base (Γc K cls) 3 "after" g8 iS ["Anew"])(H_Copy_after:cy P w K mg base (Γc K cls) 2 "after" g7 iR ["Copy"])(H_Deed_after:cy P w K mg base (Γc K cls) 1 "after" fZ dH ["Deed","Promise","Comparing","Untouched","Still","Handed"])(H_Deed_turns:cy P w K mg base (Γc K cls) 1 "turns" eZ fb ["Deed","Promise","Comparing","Untouched","Still","Put","Copy","Tick","Handed","Grow","Anew"])(H_Grow_after:cy P w K mg base (Γc K cls) 3 "after" fY iQ ["Grow"])(H_Put_after:cy P w K mg base (Γc K cls) 2 "after" i9 jG ["Put"])(H_Tick_after:cy P w K mg base (Γc K cls) 2 "after" fX iP ["Tick"]):dR P w K mg base (Γc K cls) 6 "turned" lx ia:=b9 (k:=5) L iV λf cdv A outer s H E hr=>(af (fG (i:=3) iV.nd rfl (aj (bu rfl) (a0 (pv 1)) qy)) (af (bp (mf (aS H_is_at_end (hr.mono (by first|decide|omega)) rfl (padN (a0 (pv 0)) (padN (a0 (pv 3)) a7)))) (ah (ar HX)) aO) (af (fG (i:=4) iV.nd rfl (aS H_deed_of (hr.mono (by first|decide|omega)) rfl (c6 (aj (bu rfl) (a0 (pv 0)) aa) (iJ (aS H_deed_at (hr.mono (by first|decide|omega)) rfl (padN (a0 (pv 0)) (c6 (aj (bu rfl) (a0 (pv 3)) aa) (c6 (aj (bu rfl) (a0 (pv 3)) aa) a7)))) a7)))) (aT (i:=4) (af (fG (i:=5) iV.nd rfl (fA (tb:=eD) (bB H_Deed_after (hr.mono (by decide)) (bB H_Put_after (hr.mono (by decide)) (bB H_Copy_after (hr.mono (by decide)) (bB H_Tick_after (hr.mono (by decide)) (bB H_Grow_after (hr.mono (by decide)) (bB H_Anew_after (hr.mono (by decide)) dZ)))))) (a0 (pv 4)) (c6 (aj (bu rfl) (a0 (pv 3)) aa) (padN (a0 (pv 2)) (c6 (aj (bu rfl) (a0 (pv 3)) aa) a7))))) (aT (i:=4) (af (bp (aE qD (aj (bu rfl) (a0 (pv 5)) aa) (wz (tb:=hJ) (bB H_Deed_turns (hr.mono (by decide)) dZ) (a0 (pv 4)))) (ah (fG (i:=6) iV.nd rfl (aA (c6 (aj (bu rfl) (a0 (pv 3)) aa) (c6 (aj (bu rfl) (a0 (pv 3)) aa) (c6 (aj (bu rfl) (a0 (pv 5)) aa) (c6 (aj (bu rfl) (a0 (pv 5)) aa) a7))))))) (ah (fG (i:=6) iV.nd rfl (aA (c6 (aj (bu rfl) (a0 (pv 3)) aa) (cV (au (az rfl) (aj (bu rfl) (a0 (pv 3)) aa) aa) (cU aa (j7 (aA a7) a7)))))))) (af (bp (y7.pt (jB (aE lC (aj (bu rfl) (a0 (pv 6)) aa) aa) (jU (mf (aS H_is_at_end (hr.mono (by first|decide|omega)) rfl (padN (a0 (pv 0)) (padN (a0 (pv 6)) a7))))))) (ah (ar (aA (c6 (fW rfl (a0 (pv 1)) j5 (eJ qy)) (c6 (aj (bu rfl) (a0 (pv 5)) aa) a7))))) aO) (ah (ar (aA (cV (au (az rfl) (fW rfl (a0 (pv 1)) j5 (eJ qy)) (aA (padN (a0 (pv 6)) a7))) (c6 (aj (bu rfl) (a0 (pv 5)) aa) a7)))))))))))))
theorem bC:aq sf fg (ag gN):=⟨rfl,rfl,rfl,by decide +kernel,rfl,by decide +kernel,by decide +kernel⟩
theorem qF(L:bz K mg "ringings_to" gN fg)(Z:gM mg)(H_entered:dR P w K mg base (Γc K cls) 1 "entered" k6 kj)(H_may_enter:dR P w K mg base (Γc K cls) 4 "may_enter" hZ ib)(H_starts_of:dR P w K mg base (Γc K cls) 1 "starts_of" hV jD)(H_turned:dR P w K mg base (Γc K cls) 6 "turned" lx ia):dR P w K mg base (Γc K cls) 7 "ringings_to" fg gY:=b9 (k:=6) L bC λf cdv A outer s H E hr=>(af (fG (i:=2) bC.nd rfl (aA (j7 (aA (cU aa (cU aa (cU aa (j7 (aA a7) a7))))) a7))) (af (fG (i:=3) bC.nd rfl (aS H_starts_of (hr.mono (by first|decide|omega)) rfl (c6 (aj (bu rfl) (a0 (pv 0)) aa) a7))) (af (fG (i:=4) bC.nd rfl (cA a7)) (af (gW PassesOwn.never rfl (DK rfl rfl Z.enumerate (a0 (pv 1))) (DU rfl rfl bC.nd rfl rfl (by first|exact Or.inl rfl|exact Or.inr rfl) (by first|exact Or.inl rfl|exact Or.inr rfl)) (af (bp (aE lC (a0 (pv 5)) aa) (af (bp (pI (mf (aS H_may_enter (hr.mono (by first|decide|omega)) rfl (padN (a0 (pv 0)) (padN (a0 (pv 2)) (c6 (aj (bu rfl) (a0 (pv 6)) aa) a7)))))) (ah BD) aO) (af (fG (i:=2) bC.nd rfl (aS H_entered (hr.mono (by first|decide|omega)) rfl (padN (a0 (pv 2)) (c6 (aj (bu rfl) (a0 (pv 6)) aa) a7)))) (ah (dE (i:=4) (pv 4) (au nN aa (aj (bu rfl) (a0 (pv 6)) aa)))))) aO) (ah (sY (λ_=>5000) PassesOwn.never (aE (FZ (n:=1) rfl (IE hr)) (fW rfl (aj (bu rfl) (a0 (pv 2)) qy) (eJ aa) (eJ aa)) (fW rfl (a0 (pv 6)) (eJ aa) (eJ aa))) (af (fG (i:=7) bC.nd rfl (aS H_turned (hr.mono (by first|decide|omega)) rfl (padN (a0 (pv 0)) (padN (a0 (pv 2)) (padN (a0 (pv 3)) a7))))) (af (fG (i:=2) bC.nd rfl (aj (bu rfl) (a0 (pv 7)) aa)) (af (fG (i:=3) bC.nd rfl (aj (bu rfl) (a0 (pv 7)) aa)) (ah (dE (i:=4) (pv 4) aa))))))))) (aT (i:=4) (ah (ar (a0 (pv 4)))))))))
theorem mM:aq Cb k7 (ag ma):=⟨rfl,rfl,rfl,by decide +kernel,rfl,by decide +kernel,by decide +kernel⟩
theorem z4(L:bz K mg "deepest" ma k7)(Z:gM mg)(H_highest_stands:Da P w K mg base (Γc K cls) 4 "highest_stands" dr bT)(H_measure:Da P w K mg base (Γc K cls) 16 "measure" jY gH)(H_ringings_to:dR P w K mg base (Γc K cls) 7 "ringings_to" fg gY):dR P w K mg base (Γc K cls) 17 "deepest" k7 mn:=b9 (k:=16) L mM λf cdv A outer s H E hr=>(af (DE (i:=1) mM.nd rfl (by first|exact Or.inl rfl|exact Or.inr rfl)) (af (DD (i:=2) mM.nd rfl (by first|exact Or.inl rfl|exact Or.inr rfl) (GQ (i:=1) H_measure (hr.mono (by first|decide|omega)) rfl (j6 (a0 (pv 0)) (j6 aa (j6 aa (qA (pv 1) a7)))))) (ah (ar (aA (padN (a0 (pv 2)) (iJ (aS H_ringings_to (hr.mono (by first|decide|omega)) rfl (padN (a0 (pv 0)) (iJ (HY (i:=1) H_highest_stands (hr.mono (by first|decide|omega)) rfl (j6 (a0 (pv 0)) (qA (pv 1) a7))) a7))) a7)))))))
theorem mL:aq JY Av (ag wb):=⟨rfl,rfl,rfl,by decide +kernel,rfl,by decide +kernel,by decide +kernel⟩
theorem Ij{f:Addr}{fd:FuncData}(L:Fun K "law" "law" wb f fd)(Z:gM mg)(H_law_bare:dR P w K mg base (Γc K cls) 1 "_law_bare" jb kP)(H_law_draw:dR P w K mg base (Γc K cls) 1 "_law_draw" cH ax)(H_law_program:dR P w K mg base (Γc K cls) 4 "_law_program" fh gZ)(H_law_whole:dR P w K mg base (Γc K cls) 1 "_law_whole" fI eQ)(H_law_words:dR P w K mg base (Γc K cls) 2 "_law_words" i0 jE)(H_deepest:dR P w K mg base (Γc K cls) 17 "deepest" k7 mn):dQ P w K mg base l3 18 f fd Av (Fu (Γc K cls) W0 AH):=II (k:=17) L mL λcdv A outer s H E hr=>(af (fG (i:=1) mL.nd rfl (aS H_law_program (hr.mono (by first|decide|omega)) rfl (padN (a0 (pv 0)) (c6 (aj (bu rfl) (cA (cU aa (cU aa (cU aa a7)))) (aS H_law_draw (hr.mono (by first|decide|omega)) rfl (padN (a0 (pv 0)) (cU aa (cU aa a7))))) a7)))) (af (fG (i:=2) mL.nd rfl (au iK (bO (cJ rfl) rfl Z.len PySem.boot_len (bc (PD.look (aj (bu rfl) (a0 (pv 1)) aa)) bP)) aa)) (af (fG (i:=3) mL.nd rfl (aS H_law_bare (hr.mono (by first|decide|omega)) rfl (padN (a0 (pv 1)) (c6 (aj (bu rfl) (cA (cU aa (cV (au iK (au nN aa (au (az rfl) (a0 (pv 2)) aa)) aa) a7))) (aS H_law_draw (hr.mono (by first|decide|omega)) rfl (padN (a0 (pv 0)) (cU aa (cU aa a7))))) a7)))) (af (fG (i:=4) mL.nd rfl (BJ rfl rfl rfl Z.len rfl Z.set (mh (js:=[6]) (vars:=[".0","_law_row"]) (dz 6) (by rfl) (by rfl) rfl (fz rfl (fW rfl (aj (bu rfl) (a0 (pv 3)) aa) (eJ aa) j5)) (λ_ _ _ _=>(t6 mL.nd rfl)) (λ_ _ _ _=>(aj (bu rfl) (a0 (pv 6)) aa))))) (af (fG (i:=5) mL.nd rfl (aS H_deepest (hr.mono (by first|decide|omega)) rfl (padN (a0 (pv 3)) a7))) (af (bp (y7.pt (qk (pI (mf (uH rfl (Cz _) rfl Z.isinstance rfl Z.tuple L3.dM (a0 (pv 5))))) (uA (aE oz (bO (cJ rfl) rfl Z.len PySem.boot_len (bc (cb (pv 5)) bP)) aa)))) (ah (ar As)) aO) (ah (ar (uJ (aS H_law_whole (hr.mono (by first|decide|omega)) rfl (c6 (aj (bu rfl) (a0 (pv 5)) aa) a7)) (uJ (uI bM (aj (bu rfl) (a0 (pv 5)) aa) (a0 (pv 4))) (yR (aS H_law_words (hr.mono (by first|decide|omega)) rfl (c6 (aj (bu rfl) (a0 (pv 5)) aa) (padN (a0 (pv 2)) a7))))))))))))))
theorem Ik(T:Jj K mg cls)(hC:PySem.W.CodeHd base CC PT)(hB:ya mg base)(Z:gM mg){f:Addr}{fd:FuncData}(L:Fun K "law" "law" wb f fd):dQ P w K mg base l3 18 f fd Av (Fu (Γc K cls) W0 AH):=by
 have h_law_bare:=@wH P w K mg base cls T.L_law_bare Z;have h_law_draw:=@wF P w K mg base cls T.L_law_draw Z;have h_law_number:=@rS P w K mg base cls T.L_law_number Z h_law_draw;have h_law_boxes:=@uS P w K mg base cls T.L_law_boxes Z h_law_draw h_law_number;have h_law_deed:=@wG P w K mg base cls T.L_law_deed Z h_law_draw h_law_number;have h_law_rank:=@wD P w K mg base cls T.L_law_rank Z h_law_draw;have h_law_shut:=@wC P w K mg base cls T.L_law_shut Z h_law_draw;have h_law_program:=@qG P w K mg base cls T.L_law_program Z h_law_boxes h_law_deed h_law_draw h_law_rank h_law_shut;have h_law_whole:=@uR P w K mg base cls T.L_law_whole Z;have h_law_words:=@uQ P w K mg base cls T.L_law_words Z h_law_whole;have h_places_to_stand:=@mR P w K mg base cls T.L_places_to_stand Z;have h_places_of:=@uO P w K mg base cls T.L_places_of Z;have h_word_at:=@yV P w K mg base cls T.L_word_at Z h_places_of;have h_steps_up:=@wB P w K mg base cls T.L_steps_up Z h_places_to_stand h_word_at;have h_highest_stands:=@nQ P w K mg base cls T.L_highest_stands hC hB Z h_steps_up;have h_measure:=@yY P w K mg base cls T.L_measure Z h_steps_up;have h_entered:=@z0 P w K mg base cls T.L_entered Z;have h_shut_by:=@yX P w K mg base cls T.L_shut_by Z h_word_at;have h_may_enter:=@uP P w K mg base cls T.L_may_enter Z h_shut_by;have h_starts_of:=@uN P w K mg base cls T.L_starts_of Z;have h_deed_at:=@za P w K mg base cls T.L_deed_at Z h_places_of;have h_size_of:=@yW P w K mg base cls T.L_size_of Z;have h_cells_of:=@wJ P w K mg base cls T.L_cells_of Z h_size_of;have h_i_Deed:=@BP P w K mg base cls T.L_i_Deed Z T.fld_plan;have h_i_Handed:=@wI P w K mg base cls T.L_i_Handed Z h_i_Deed;have h_i_Anew:=@BR P w K mg base cls T.L_i_Anew Z T.fld_check h_i_Handed;have h_i_Promise:=@uU P w K mg base cls T.L_i_Promise Z h_i_Deed;have h_i_Comparing:=@qI P w K mg base cls T.L_i_Comparing Z h_i_Promise;have h_i_Copy:=@BQ P w K mg base cls T.L_i_Copy Z h_i_Deed;have h_i_Grow:=@BO P w K mg base cls T.L_i_Grow Z T.fld_number T.fld_size h_i_Handed;have h_i_Put:=@DY P w K mg base cls T.L_i_Put Z T.fld_numbers h_i_Deed;have h_i_Still:=@yZ P w K mg base cls T.L_i_Still Z h_i_Deed;have h_i_Tick:=@BN P w K mg base cls T.L_i_Tick Z h_i_Deed;have h_i_Untouched:=@qH P w K mg base cls T.L_i_Untouched Z h_i_Promise;have h_deed_of:=@z9 P w K mg base cls T.L_deed_of Z h_cells_of h_i_Anew h_i_Comparing h_i_Copy h_i_Grow h_i_Put h_i_Still h_i_Tick h_i_Untouched;have h_is_at_end:=@uT P w K mg base cls T.L_is_at_end Z h_places_of;have h_Deed_reads:=@rX P w K mg base cls T.L_Deed_reads Z T.fld_plan;have h_Handed_laid:=@qJ P w K mg base cls T.L_Handed_laid Z h_Deed_reads;have h_written:=@yU P w K mg base cls T.L_written Z;have h_Deed_turns:=@rW P w K mg base cls T.L_Deed_turns Z T.fld_plan;have h_Deed_writes:=@qK P w K mg base cls T.L_Deed_writes Z T.fld_plan;have h_Handed_set_down:=@mS P w K mg base cls T.L_Handed_set_down Z h_written h_Deed_turns h_Deed_writes;have h_Anew_after:=@se P w K mg base cls T.L_Anew_after Z T.fld_check h_Deed_reads h_Handed_laid h_Handed_set_down;have h_Copy_after:=@rZ P w K mg base cls T.L_Copy_after Z h_written h_Deed_reads h_Deed_writes;have h_Deed_after:=@rY P w K mg base cls T.L_Deed_after Z;have h_Grow_after:=@rV P w K mg base cls T.L_Grow_after Z T.fld_number T.fld_size h_Handed_laid h_Handed_set_down;have h_Put_after:=@uV P w K mg base cls T.L_Put_after Z h_written T.fld_numbers h_Deed_writes;have h_Tick_after:=@rT P w K mg base cls T.L_Tick_after Z h_written h_Deed_writes;have h_turned:=@BM P w K mg base cls T.L_turned Z h_deed_at h_deed_of h_is_at_end h_Anew_after h_Copy_after h_Deed_after h_Deed_turns h_Grow_after h_Put_after h_Tick_after;have h_ringings_to:=@qF P w K mg base cls T.L_ringings_to Z h_entered h_may_enter h_starts_of h_turned;have h_deepest:=@z4 P w K mg base cls T.L_deepest Z h_highest_stands h_measure h_ringings_to;exact Ij L Z h_law_bare h_law_draw h_law_program h_law_whole h_law_words h_deepest
end
unseal PySem.wpAny
theorem walk{l:PySem.W.OpenLaw}{q:Program}{loose:List Str}{XP:(Str->Option Value)->Heap->Prop}{YP:World->Heap->Prop}{d:DefRec}{K:Params->Frag}(T:∀ns:List Int,ns.length<=63->AH [.lst (ns.map D.int)]=some (.ok (.sh (.bl true)))){dP:DefRec}(hrec:(recsOf q).find? (λe=>e.name == ("highest_stands":Str))=some dP)(htab:∀w:World,PySem.W.tabIn (K w.params) "highest_stands" = some (CC,PT))(hno:∀w:World,PySem.W.noTabs (K w.params)=true)(hn:l.most=some 63)(hdf:d.params.defaults=[])(hdn:d.name = "law")
  (hY:∀(w:World)(h:Heap),YP w h->(K w.params).In h) (F:∀(w:World)(mg:Str->Option Value)(h:Heap),(K w.params).In h->h.Ns mainGlobals mg->(∃cls,Jj (K w.params) mg cls)/\gM mg):PySem.W.WalkO q loose XP YP l.row.toRowW d [] (λf vs=>PySem.call f vs):=
 Cw (y := "highest_stands") (cc:=CC) (PT:=PT) (good:=good) (k:=18) (x := "_law_script") (by decide) hn hdf hrec htab hno hY λw mg fa h KX G hm=>by
  obtain⟨⟨cls,T1⟩,Z⟩:=F w mg h KX G;obtain⟨f,fd,Fl,hm2,_⟩:=T1.L_law.ex;rw[hdn,hm2] at hm;cases hm;obtain⟨oc,od,kV,doc,pm,an,cdv,ct,osl,e,_⟩:=id Fl.ex;exact⟨fd,λs u=>by rw[e];exact .of_eq rfl,λbase hC hB=>Gb (Ik (cls:=cls) T1 hC hB Z Fl) rfl rfl T⟩
set_option maxHeartbeats 0 in
theorem ln1:∀{us:List Value},us.length=1->∃a,us=[a]
 |[a],_=>⟨a,rfl⟩
theorem ln2:∀{us:List Value},us.length=2->∃a b,us=[a,b]
 |[a,b],_=>⟨a,b,rfl⟩
theorem ln3:∀{us:List Value},us.length=3->∃a b c,us=[a,b,c]
 |[a,b,c],_=>⟨a,b,c,rfl⟩
theorem ln4:∀{us:List Value},us.length=4->∃a b c d,us=[a,b,c,d]
 |[a,b,c,d],_=>⟨a,b,c,d,rfl⟩
theorem ln5:∀{us:List Value},us.length=5->∃a b c d e,us=[a,b,c,d,e]
 |[a,b,c,d,e],_=>⟨a,b,c,d,e,rfl⟩
theorem ln6:∀{us:List Value},us.length=6->∃a b c d e f,us=[a,b,c,d,e,f]
 |[a,b,c,d,e,f],_=>⟨a,b,c,d,e,f,rfl⟩
section
variable{K:Frag}{h:Heap}{mg:Str->Option Value}{x qual:Str}{st:Stmt}{ps:List Str}{f C:Addr}{cls:String->Addr}{cn:String}{oc:Value}{od an:Option Addr}{sl:Array (Option Value)}{kV doc pm cdv ct:Value}
def LM(K:Frag)(x qual:Str)(st:Stmt)(f:Addr):Prop:=∃(oc:Value)(od an:Option Addr)(sl:Array (Option Value))(kV doc pm cdv ct:Value),K.lookup f=some ⟨oc,od,.func (fnOf x qual (bR st) (aR st) (ag st) .none kV doc pm an cdv ct),sl⟩/\codeIn K cdv qual=true/\keepIn K (.ref f)=true/\isFn K (.ref f)=true
theorem lm(l:K.lookup f=some ⟨oc,od,.func (fnOf x qual (bR st) (aR st) (ag st) .none kV doc pm an cdv ct),sl⟩)(c:codeIn K cdv qual=true)(k:keepIn K (.ref f)=true)(i:isFn K (.ref f)=true):LM K x qual st f:=⟨_,_,_,_,_,_,_,_,_,l,c,k,i⟩
theorem LM.laid{cs:List String}(h:LM K x qual st f)(hc:∀c∈cs,jR K (cls c)/\findIn K (.ref (cls c)) x=some (some (.ref f)))(hb:∀(kV doc pm:Value)(an:Option Addr)(cdv ct:Value)(us:List Value),us.length=ps.length->bindArgs (fnOf x qual (bR st) (aR st) (ag st) .none kV doc pm an cdv ct) ⟨us,[]⟩=pure (ps.zip us):=by intro _ _ _ _ _ _ us hl;first|(obtain⟨_,rfl⟩:=ln1 hl;rfl)|(obtain⟨_,_,rfl⟩:=ln2 hl;rfl)|(obtain⟨_,_,_,rfl⟩:=ln3 hl;rfl)|(obtain⟨_,_,_,_,rfl⟩:=ln4 hl;rfl)|(obtain⟨_,_,_,_,_,rfl⟩:=ln5 hl;rfl)|(obtain⟨_,_,_,_,_,_,rfl⟩:=ln6 hl;rfl)):dN K cls x qual st ps cs:=by
 obtain⟨_,_,_,_,_,_,_,_,_,l,c,k,i⟩:=h;exact Em l c k i hb hc
def LP(K:Frag)(x:Str)(st:Stmt):Prop:=∃f,nsIn K mainGlobals x=some (some (.ref f))/\∃(oc:Value)(od an:Option Addr)(sl:Array (Option Value))(kV doc pm cdv ct:Value),K.lookup f=some ⟨oc,od,.func (fnOf x x (bR st) (aR st) (ag st) .none kV doc pm an cdv ct),sl⟩/\codeIn K cdv x=true/\keepIn K (.ref f)=true
theorem lp(a:nsIn K mainGlobals x=some (some (.ref f)))(l:K.lookup f=some ⟨oc,od,.func (fnOf x x (bR st) (aR st) (ag st) .none kV doc pm an cdv ct),sl⟩)(c:codeIn K cdv x=true)(k:keepIn K (.ref f)=true):LP K x st:=⟨_,a,_,_,_,_,_,_,_,_,_,l,c,k⟩
theorem LP.laid(h':LP K x st)(X:K.In h)(G:h.Ns mainGlobals mg)(hb:∀(kV doc pm:Value)(an:Option Addr)(cdv ct:Value)(us:List Value),us.length=ps.length->bindArgs (fnOf x x (bR st) (aR st) (ag st) .none kV doc pm an cdv ct) ⟨us,[]⟩=pure (ps.zip us):=by intro _ _ _ _ _ _ us hl;first|(obtain⟨_,rfl⟩:=ln1 hl;rfl)|(obtain⟨_,_,rfl⟩:=ln2 hl;rfl)|(obtain⟨_,_,_,rfl⟩:=ln3 hl;rfl)|(obtain⟨_,_,_,_,rfl⟩:=ln4 hl;rfl)|(obtain⟨_,_,_,_,_,rfl⟩:=ln5 hl;rfl)|(obtain⟨_,_,_,_,_,_,rfl⟩:=ln6 hl;rfl)):bz K mg x st ps:=by
 obtain⟨_,a,_,_,_,_,_,_,_,_,_,l,c,k⟩:=h';exact Gc X G a l c k hb
def LI(K:Frag)(C:Addr)(_x qual:Str)(st:Stmt):Prop:=∃f,∃(oc:Value)(od an:Option Addr)(sl:Array (Option Value))(kV doc pm cdv ct:Value),findIn K (.ref C) "__init__" = some (some (.ref f))/\K.lookup f=some ⟨oc,od,.func (fnOf "__init__" qual (bR st) (aR st) (ag st) .none kV doc pm an cdv ct),sl⟩/\codeIn K cdv qual=true/\keepIn K (.ref f)=true/\isFn K (.ref f)=true/\makesIn K C=true/\keepIn K (.ref C)=true/\findCls K (.ref C) (.type "type") "__init__" = some (.val (.ref f))/\specialIn K (.ref C) "__getattribute__" = some (some (.builtin "type.__getattribute__"))/\readsIn K C (.type "type")=true
theorem li(fi:findIn K (.ref C) "__init__" = some (some (.ref f)))(l:K.lookup f=some ⟨oc,od,.func (fnOf "__init__" qual (bR st) (aR st) (ag st) .none kV doc pm an cdv ct),sl⟩)(c:codeIn K cdv qual=true)(k:keepIn K (.ref f)=true)(i:isFn K (.ref f)=true)(m:makesIn K C=true)(n:keepIn K (.ref C)=true)(o:findCls K (.ref C) (.type "type") "__init__" = some (.val (.ref f)))(q:specialIn K (.ref C) "__getattribute__" = some (some (.builtin "type.__getattribute__")))(r:readsIn K C (.type "type")=true):LI K C x qual st:=⟨_,_,_,_,_,_,_,_,_,_,fi,l,c,k,i,m,n,o,q,r⟩
theorem LI.laid(h':LI K (cls cn) x qual st)(a:nsIn K mainGlobals x=some (some (.ref (cls cn))))(X:K.In h)(G:h.Ns mainGlobals mg)(hb:∀(kV doc pm:Value)(an:Option Addr)(cdv ct:Value)(us:List Value),us.length=ps.length->bindArgs (fnOf "__init__" qual (bR st) (aR st) (ag st) .none kV doc pm an cdv ct) ⟨us,[]⟩=pure (ps.zip us):=by intro _ _ _ _ _ _ us hl;first|(obtain⟨_,rfl⟩:=ln1 hl;rfl)|(obtain⟨_,_,rfl⟩:=ln2 hl;rfl)|(obtain⟨_,_,_,rfl⟩:=ln3 hl;rfl)|(obtain⟨_,_,_,_,rfl⟩:=ln4 hl;rfl)|(obtain⟨_,_,_,_,_,rfl⟩:=ln5 hl;rfl)|(obtain⟨_,_,_,_,_,_,rfl⟩:=ln6 hl;rfl)):dO K mg cls cn x qual st ps:=by
 obtain⟨_,_,_,_,_,_,_,_,_,_,fi,l,c,k,i,m,n,o,q,r⟩:=h';exact Eo X G rfl a fi l c k i m n o q r hb
end
theorem defs_mk{K:Frag}{h:Heap}{mg:Str->Option Value}(X:K.In h)(G:h.Ns mainGlobals mg){C0 C1 C2 C3 C4 C5 C6 C7 C8 C9 C10 g36 g37 g39 g40 g41 g42 g43 g44 g45 g46 g47:Addr}
  (ca0:nsIn K mainGlobals "Deed" = some (some (.ref C0)))
  (d0:jR K C0)
  (ca1:nsIn K mainGlobals "Promise" = some (some (.ref C1)))
  (d1:jR K C1)
  (ca2:nsIn K mainGlobals "Comparing" = some (some (.ref C2)))
  (d2:jR K C2)
  (ca3:nsIn K mainGlobals "Untouched" = some (some (.ref C3)))
  (d3:jR K C3)
  (ca4:nsIn K mainGlobals "Still" = some (some (.ref C4)))
  (d4:jR K C4)
  (ca5:nsIn K mainGlobals "Put" = some (some (.ref C5)))
  (d5:jR K C5)
  (ca6:nsIn K mainGlobals "Copy" = some (some (.ref C6)))
  (d6:jR K C6)
  (ca7:nsIn K mainGlobals "Tick" = some (some (.ref C7)))
  (d7:jR K C7)
  (ca8:nsIn K mainGlobals "Handed" = some (some (.ref C8)))
  (d8:jR K C8)
  (ca9:nsIn K mainGlobals "Grow" = some (some (.ref C9)))
  (d9:jR K C9)
  (ca10:nsIn K mainGlobals "Anew" = some (some (.ref C10)))
  (d10:jR K C10)
  (h0:LP K "_law_bare" kH)
  (h1:LP K "_law_draw" kF)
  (h2:LP K "_law_number" iB)
  (h3:LP K "_law_boxes" jw)
  (h4:LP K "_law_deed" kG)
  (h5:LP K "_law_rank" kE)
  (h6:LP K "_law_shut" kD)
  (h7:LP K "_law_program" gO)
  (h8:LP K "_law_whole" jv)
  (h9:LP K "_law_words" ju)
  (h10:LP K "places_to_stand" e9)
  (h11:LP K "places_of" jr)
  (h12:LP K "word_at" lZ)
  (h13:LP K "steps_up" kC)
  {g14:Addr} {oc14:Value} {od14 an14:Option Addr} {sl14:Array (Option Value)} {kV14 dc14 pm14 ct14:Value}
  (a14:nsIn K mainGlobals "highest_stands" = some (some (.ref g14)))
  (l14:K.lookup g14=some ⟨oc14,od14,.func (fnOf "highest_stands" "highest_stands" (bR bS) (aR bS) (ag bS) .none kV14 dc14 pm14 an14 (.ref CC) ct14),sl14⟩)
  (c14:codeIn K (.ref CC) "highest_stands" = true)
  (k14:keepIn K (.ref g14)=true)
  (h15:LP K "measure" m6)
  (h16:LP K "entered" m9)
  (h17:LP K "shut_by" m5)
  (h18:LP K "may_enter" jt)
  (h19:LP K "starts_of" jq)
  (h20:LP K "deed_at" me)
  (h21:LP K "size_of" m3)
  (h22:LP K "cells_of" kJ)
  (h23:LI K C0 "Deed" "Deed.__init__" nE)
  (h24:LI K C8 "Handed" "Handed.__init__" kI)
  (h25:LI K C10 "Anew" "Anew.__init__" nG)
  (h26:LI K C1 "Promise" "Promise.__init__" jy)
  (h27:LI K C2 "Comparing" "Comparing.__init__" gQ)
  (h28:LI K C6 "Copy" "Copy.__init__" nF)
  (h29:LI K C9 "Grow" "Grow.__init__" nD)
  (h30:LI K C5 "Put" "Put.__init__" pE)
  (h31:LI K C4 "Still" "Still.__init__" m7)
  (h32:LI K C7 "Tick" "Tick.__init__" nC)
  (h33:LI K C3 "Untouched" "Untouched.__init__" gP)
  (h34:LP K "deed_of" md)
  (h35:LP K "is_at_end" jx)
  (f36_0:findIn K (.ref C0) "reads" = some (some (.ref g36)))
  (f36_1:findIn K (.ref C1) "reads" = some (some (.ref g36)))
  (f36_2:findIn K (.ref C2) "reads" = some (some (.ref g36)))
  (f36_3:findIn K (.ref C3) "reads" = some (some (.ref g36)))
  (f36_4:findIn K (.ref C4) "reads" = some (some (.ref g36)))
  (f36_5:findIn K (.ref C5) "reads" = some (some (.ref g36)))
  (f36_6:findIn K (.ref C6) "reads" = some (some (.ref g36)))
  (f36_7:findIn K (.ref C7) "reads" = some (some (.ref g36)))
  (f36_8:findIn K (.ref C8) "reads" = some (some (.ref g36)))
  (f36_9:findIn K (.ref C9) "reads" = some (some (.ref g36)))
  (f36_10:findIn K (.ref C10) "reads" = some (some (.ref g36)))
  (h36:LM K "reads" "Deed.reads" iF g36)
  (f37_8:findIn K (.ref C8) "laid" = some (some (.ref g37)))
  (f37_9:findIn K (.ref C9) "laid" = some (some (.ref g37)))
  (f37_10:findIn K (.ref C10) "laid" = some (some (.ref g37)))
  (h37:LM K "laid" "Handed.laid" gR g37)
  (h38:LP K "written" lY)
  (f39_0:findIn K (.ref C0) "turns" = some (some (.ref g39)))
  (f39_1:findIn K (.ref C1) "turns" = some (some (.ref g39)))
  (f39_2:findIn K (.ref C2) "turns" = some (some (.ref g39)))
  (f39_3:findIn K (.ref C3) "turns" = some (some (.ref g39)))
  (f39_4:findIn K (.ref C4) "turns" = some (some (.ref g39)))
  (f39_5:findIn K (.ref C5) "turns" = some (some (.ref g39)))
  (f39_6:findIn K (.ref C6) "turns" = some (some (.ref g39)))
  (f39_7:findIn K (.ref C7) "turns" = some (some (.ref g39)))
  (f39_8:findIn K (.ref C8) "turns" = some (some (.ref g39)))
  (f39_9:findIn K (.ref C9) "turns" = some (some (.ref g39)))
  (f39_10:findIn K (.ref C10) "turns" = some (some (.ref g39)))
  (h39:LM K "turns" "Deed.turns" iE g39)
  (f40_0:findIn K (.ref C0) "writes" = some (some (.ref g40)))
  (f40_1:findIn K (.ref C1) "writes" = some (some (.ref g40)))
  (f40_2:findIn K (.ref C2) "writes" = some (some (.ref g40)))
  (f40_3:findIn K (.ref C3) "writes" = some (some (.ref g40)))
  (f40_4:findIn K (.ref C4) "writes" = some (some (.ref g40)))
  (f40_5:findIn K (.ref C5) "writes" = some (some (.ref g40)))
  (f40_6:findIn K (.ref C6) "writes" = some (some (.ref g40)))
  (f40_7:findIn K (.ref C7) "writes" = some (some (.ref g40)))
  (f40_8:findIn K (.ref C8) "writes" = some (some (.ref g40)))
  (f40_9:findIn K (.ref C9) "writes" = some (some (.ref g40)))
  (f40_10:findIn K (.ref C10) "writes" = some (some (.ref g40)))
  (h40:LM K "writes" "Deed.writes" gT g40)
  (f41_8:findIn K (.ref C8) "set_down" = some (some (.ref g41)))
  (f41_9:findIn K (.ref C9) "set_down" = some (some (.ref g41)))
  (f41_10:findIn K (.ref C10) "set_down" = some (some (.ref g41)))
  (h41:LM K "set_down" "Handed.set_down" ee g41)
  (f42_10:findIn K (.ref C10) "after" = some (some (.ref g42)))
  (h42:LM K "after" "Anew.after" iI g42)
  (f43_6:findIn K (.ref C6) "after" = some (some (.ref g43)))
  (h43:LM K "after" "Copy.after" iH g43)
  (f44_0:findIn K (.ref C0) "after" = some (some (.ref g44)))
  (f44_1:findIn K (.ref C1) "after" = some (some (.ref g44)))
  (f44_2:findIn K (.ref C2) "after" = some (some (.ref g44)))
  (f44_3:findIn K (.ref C3) "after" = some (some (.ref g44)))
  (f44_4:findIn K (.ref C4) "after" = some (some (.ref g44)))
  (f44_8:findIn K (.ref C8) "after" = some (some (.ref g44)))
  (h44:LM K "after" "Deed.after" iG g44)
  (f45_9:findIn K (.ref C9) "after" = some (some (.ref g45)))
  (h45:LM K "after" "Grow.after" iD g45)
  (f46_5:findIn K (.ref C5) "after" = some (some (.ref g46)))
  (h46:LM K "after" "Put.after" jA g46)
  (f47_7:findIn K (.ref C7) "after" = some (some (.ref g47)))
  (h47:LM K "after" "Tick.after" iC g47)
  (h48:LP K "turned" nB)
  (h49:LP K "ringings_to" gN)
  (h50:LP K "deepest" ma)
  (h51:LP K "law" wb)
  (na_check_10:findIn K (.ref C10) "check" = some none)
  (na_number_9:findIn K (.ref C9) "number" = some none)
  (na_numbers_5:findIn K (.ref C5) "numbers" = some none)
  (na_plan_0:findIn K (.ref C0) "plan" = some none)
  (na_plan_1:findIn K (.ref C1) "plan" = some none)
  (na_plan_2:findIn K (.ref C2) "plan" = some none)
  (na_plan_3:findIn K (.ref C3) "plan" = some none)
  (na_plan_4:findIn K (.ref C4) "plan" = some none)
  (na_plan_5:findIn K (.ref C5) "plan" = some none)
  (na_plan_6:findIn K (.ref C6) "plan" = some none)
  (na_plan_7:findIn K (.ref C7) "plan" = some none)
  (na_plan_8:findIn K (.ref C8) "plan" = some none)
  (na_plan_9:findIn K (.ref C9) "plan" = some none)
  (na_plan_10:findIn K (.ref C10) "plan" = some none)
  (na_size_9:findIn K (.ref C9) "size" = some none)
  (z_bool:nsIn K mainGlobals "bool" = some none)
  (z_enumerate:nsIn K mainGlobals "enumerate" = some none)
  (z_int:nsIn K mainGlobals "int" = some none)
  (z_isinstance:nsIn K mainGlobals "isinstance" = some none)
  (z_len:nsIn K mainGlobals "len" = some none)
  (z_list:nsIn K mainGlobals "list" = some none)
  (z_max:nsIn K mainGlobals "max" = some none)
  (z_range:nsIn K mainGlobals "range" = some none)
  (z_set:nsIn K mainGlobals "set" = some none)
  (z_sorted:nsIn K mainGlobals "sorted" = some none)
  (z_sum:nsIn K mainGlobals "sum" = some none)
  (z_tuple:nsIn K mainGlobals "tuple" = some none):
  (∃cls,Jj K mg cls)/\gM mg:=by
 obtain⟨cls,rfl,rfl,rfl,rfl,rfl,rfl,rfl,rfl,rfl,rfl,rfl⟩:∃cls:String->Addr,cls "Deed" = C0/\cls "Promise" = C1/\cls "Comparing" = C2/\cls "Untouched" = C3/\cls "Still" = C4/\cls "Put" = C5/\cls "Copy" = C6/\cls "Tick" = C7/\cls "Handed" = C8/\cls "Grow" = C9/\cls "Anew" = C10:=⟨clsF [("Deed",C0),("Promise",C1),("Comparing",C2),("Untouched",C3),("Still",C4),("Put",C5),("Copy",C6),("Tick",C7),("Handed",C8),("Grow",C9),("Anew",C10)],by simp[clsF]⟩
 exact⟨⟨cls,⟨h0.laid X G,h1.laid X G,h2.laid X G,h3.laid X G,h4.laid X G,h5.laid X G,h6.laid X G,h7.laid X G,h8.laid X G,h9.laid X G,h10.laid X G,h11.laid X G,h12.laid X G,h13.laid X G,Ep X G a14 l14 c14 k14 λ_ _ _ _ _ _ us hl=>match us,hl with|[_,_],_=>rfl,h15.laid X G,h16.laid X G,h17.laid X G,h18.laid X G,h19.laid X G,h20.laid X G,h21.laid X G,h22.laid X G,h23.laid ca0 X G,h24.laid ca8 X G,h25.laid ca10 X G,h26.laid ca1 X G,h27.laid ca2 X G,h28.laid ca6 X G,h29.laid ca9 X G,h30.laid ca5 X G,h31.laid ca4 X G,h32.laid ca7 X G,h33.laid ca3 X G,h34.laid X G,h35.laid X G,h36.laid (all_cons ⟨d0,f36_0⟩ (all_cons ⟨d1,f36_1⟩ (all_cons ⟨d2,f36_2⟩ (all_cons ⟨d3,f36_3⟩ (all_cons ⟨d4,f36_4⟩ (all_cons ⟨d5,f36_5⟩ (all_cons ⟨d6,f36_6⟩ (all_cons ⟨d7,f36_7⟩ (all_cons ⟨d8,f36_8⟩ (all_cons ⟨d9,f36_9⟩ (all_cons ⟨d10,f36_10⟩ dk))))))))))),h37.laid (all_cons ⟨d8,f37_8⟩ (all_cons ⟨d9,f37_9⟩ (all_cons ⟨d10,f37_10⟩ dk))),h38.laid X G,h39.laid (all_cons ⟨d0,f39_0⟩ (all_cons ⟨d1,f39_1⟩ (all_cons ⟨d2,f39_2⟩ (all_cons ⟨d3,f39_3⟩ (all_cons ⟨d4,f39_4⟩ (all_cons ⟨d5,f39_5⟩ (all_cons ⟨d6,f39_6⟩ (all_cons ⟨d7,f39_7⟩ (all_cons ⟨d8,f39_8⟩ (all_cons ⟨d9,f39_9⟩ (all_cons ⟨d10,f39_10⟩ dk))))))))))),h40.laid (all_cons ⟨d0,f40_0⟩ (all_cons ⟨d1,f40_1⟩ (all_cons ⟨d2,f40_2⟩ (all_cons ⟨d3,f40_3⟩ (all_cons ⟨d4,f40_4⟩ (all_cons ⟨d5,f40_5⟩ (all_cons ⟨d6,f40_6⟩ (all_cons ⟨d7,f40_7⟩ (all_cons ⟨d8,f40_8⟩ (all_cons ⟨d9,f40_9⟩ (all_cons ⟨d10,f40_10⟩ dk))))))))))),h41.laid (all_cons ⟨d8,f41_8⟩ (all_cons ⟨d9,f41_9⟩ (all_cons ⟨d10,f41_10⟩ dk))),h42.laid (all_cons ⟨d10,f42_10⟩ dk),h43.laid (all_cons ⟨d6,f43_6⟩ dk),h44.laid (all_cons ⟨d0,f44_0⟩ (all_cons ⟨d1,f44_1⟩ (all_cons ⟨d2,f44_2⟩ (all_cons ⟨d3,f44_3⟩ (all_cons ⟨d4,f44_4⟩ (all_cons ⟨d8,f44_8⟩ dk)))))),h45.laid (all_cons ⟨d9,f45_9⟩ dk),h46.laid (all_cons ⟨d5,f46_5⟩ dk),h47.laid (all_cons ⟨d7,f47_7⟩ dk),h48.laid X G,h49.laid X G,h50.laid X G,h51.laid X G,(all_cons ⟨d10,na_check_10⟩ dk),(all_cons ⟨d9,na_number_9⟩ dk),(all_cons ⟨d5,na_numbers_5⟩ dk),(all_cons ⟨d0,na_plan_0⟩ (all_cons ⟨d1,na_plan_1⟩ (all_cons ⟨d2,na_plan_2⟩ (all_cons ⟨d3,na_plan_3⟩ (all_cons ⟨d4,na_plan_4⟩ (all_cons ⟨d5,na_plan_5⟩ (all_cons ⟨d6,na_plan_6⟩ (all_cons ⟨d7,na_plan_7⟩ (all_cons ⟨d8,na_plan_8⟩ (all_cons ⟨d9,na_plan_9⟩ (all_cons ⟨d10,na_plan_10⟩ dk))))))))))),(all_cons ⟨d9,na_size_9⟩ dk)⟩⟩,⟨mg_none_of X G z_bool,mg_none_of X G z_enumerate,mg_none_of X G z_int,mg_none_of X G z_isinstance,mg_none_of X G z_len,mg_none_of X G z_list,mg_none_of X G z_max,mg_none_of X G z_range,mg_none_of X G z_set,mg_none_of X G z_sorted,mg_none_of X G z_sum,mg_none_of X G z_tuple⟩⟩
end Bell
namespace PySem.W.Fast
def tw17217311163301207316:=0
def tw1112804515764761402:=0
def tw2180777562204441637:=0
def tw17422388105737477255:=0
def tw11603830337600383847:=0
def tw3686427650244965275:=0
def tw1704769185952001943:=0
def tw7341281512047650584:=0
def tw7054621915030435893:=0
def tw17388697339550110267:=0
def tw3181772662594160149:=0
def tw13649049996266240855:=0
def tw1492544652045388952:=0
def tw16983080875598254247:=0
def tw1001367973782011456:=0
def tw14496155242168888207:=0
def tw16744779148751117916:=0
def tw18191363835873081428:=0
def tw6711359441848060287:=0
def tw9458140789293494011:=0
def tw11442629788282863052:=0
def tw10201989623837193933:=0
def tw5900951497828138900:=0
def tw8229781472030748859:=0
def tw4916940992843928626:=0
def tw8225084293804425438:=0
def tw13148007876680582617:=0
def tw13136154426742910996:=0
def tw6003626767834490936:=0
def tw7202556511808291172:=0
def tw9639121204158230377:=0
def tw10627882386275539363:=0
def tw12264860460705477481:=0
def tw8605888943497973015:=0
def tw17461679524126448163:=0
def tw14323058889050388442:=0
def tw414026578072390405:=0
def tw11148246878172921780:=0
def tw4531012892322249672:=0
def tw9930270331193194906:=0
def tw13180159386442785191:=0
def tw1298766177578094361:=0
def tw13407139536396598099:=0
def tw15749840033312621748:=0
def tw697290691155543418:=0
def tw771907623338965276:=0
def tw15419120627581168420:=0
def tw16183412097713153728:=0
def tw15344478412598619605:=0
def tw15701223376874685385:=0
def tw9869210439211881271:=0
def tw7574345623254758050:=0
def tw17290624585565158696:=0
def tw13254486687115190897:=0
def tw1575497804306716335:=0
def tw14962489537997610773:=0
def tw5402707092812877231:=0
def tw6831753621452045200:=0
def tw11087673323491322362:=0
def tw18062356166354761887:=0
def tw2793567918998452719:=0
def tw12491622339714454668:=0
def tw2375331093580660733:=0
def tw9670450137237900463:=0
def tw16079316622918552255:=0
def tw367136246843594763:=0
def tw1632869227608342783:=0
def tw8808503801317858041:=0
def tw6189408575116394809:=0
def tw6530276238753140829:=0
def tw18154224575105871855:=0
def tw17755516370461256241:=0
def tw4526379008426910852:=0
def tw11032951996914163704:=0
def tw13668006165661130691:=0
def tw9263092198402711809:=0
def tw5923263040436323294:=0
def tw15289733961743103962:=0
def tw1577602431169556465:=0
def tw11058668620043205833:=0
def tw10481925293045003853:=0
def tw18123505498472772364:=0
def tw4126603028161800400:=0
def tw8856178247895879664:=0
def tw15647981995300769774:=0
def tw9937011846111945438:=0
def tw8948931175866259758:=0
def tw9880043047990487657:=0
def tw8645330813711950067:=0
def tw16102736265020047873:=0
def tw88846311999416786:=0
def tw351481067180424680:=0
def tw15736601002641674293:=0
def tw14310296886935587447:=0
def tw5541693789269377770:=0
def tw1207794531107964304:=0
def tw15741949017407033844:=0
def tw7038434625698249852:=0
def tw8761349693763704186:=0
def tw3418437527155848733:=0
def tw2298892384463785428:=0
def tw4119900852436275742:=0
def tw2072071155585000545:=0
def tw16847342045589007322:=0
def tw14343367677911064015:=0
def tw14388504200872992270:=0
def tw5513067148407671649:=0
def tw8626139472445674223:=0
def tw10950522435574463209:=0
def tw6155472301630983749:=0
def tw2575519628583445183:=0
def tw16768540053367322272:=0
def tw12118095704360434268:=0
def tw16643420454634320162:=0
def tw1043560710378065525:=0
def tw15250029754544711118:=0
def tw6621681322284423747:=0
def tw6765094679253936892:=0
def tw15723669556207760348:=0
def tw10564110467884436337:=0
def tw16308352065356654295:=0
def tw5802505460255301574:=0
def tw7299197680855192011:=0
def tw14047640419415188606:=0
def tw13315746934048952253:=0
def tw6389547201662239570:=0
def tw14195919135009262620:=0
def tw6890261804110905277:=0
def tw5627554910160131923:=0
def tw15756394229603073863:=0
def tw11785629438414576513:=0
def tw12849299001725545739:=0
def tw6718778702676466607:=0
def tw10049932904884331448:=0
def tw7310569067691102670:=0
def tw17271941178282859703:=0
def tw14816363326882989548:=0
def tw1020158602356378149:=0
def tw15351357725729252108:=0
def tw8435174185810541707:=0
def tw3023562815843436909:=0
def tw2312322925250528241:=0
def tw128523114552764803:=0
def tw18135520027938770819:=0
def tw16573851113573638116:=0
def tw7490244088153462469:=0
def tw5174621378430197867:=0
def tw16175660486299637738:=0
def tw14130048574221356614:=0
def tw10024879085492177958:=0
def tw6562623370691772054:=0
def tw11509568885245209395:=0
def tw17316249802591695256:=0
def tw7172256874490576536:=0
def tw12001432532294798911:=0
def tw3550178666680723814:=0
def tw11601985787417211566:=0
def tw15755275900013963662:=0
def tw15803595643110729459:=0
def tw15532469825906507031:=0
def tw4114079310828521879:=0
def tw3919025947324073955:=0
def tw2692950946789713533:=0
def tw6120105707878893043:=0
def tw8316247283142733182:=0
def tw5147933737333222601:=0
def tw17435052503088124702:=0
def tw16979310289964756613:=0
def tw9643834260369578111:=0
def tw981697867670576779:=0
def tw6466586674242168065:=0
def tw2993251881911705134:=0
def tw18040291193995519142:=0
def tw6669403333940925087:=0
def tw2063845536086876965:=0
def tw15149303587346407602:=0
def tw12434310219939984878:=0
def tw1415583558382912781:=0
def tw10943417147975218142:=0
def tw5150011691083800947:=0
def tw6874991203017111911:=0
def tw6463998524726334251:=0
def tw4063150294887685197:=0
def tw2848037384935507457:=0
def tw12196575299378007097:=0
def tw9362903170038753638:=0
def tw3057559951923023211:=0
def tw520797305293702930:=0
def tw12323541459361086485:=0
def tw2261201851240637717:=0
def tw3986415492235827191:=0
def tw9986922928466122084:=0
def tw2782211900658327954:=0
def tw9638155793396176773:=0
def tw881592802577632705:=0
def tw1888320197080852184:=0
def tw9076118641390146399:=0
def tw11458247661968197769:=0
def tw4757111495276404310:=0
def tw4540386743630156646:=0
def tw14121868993739631465:=0
def tw3900479669674729829:=0
def tw17186377739854569731:=0
def tw6705910847085651347:=0
def tw5199141033869118115:=0
def tw5077615539455126020:=0
def tw10574117028355781104:=0
def tw9117992420072436923:=0
end PySem.W.Fast
open PySem PySem.W PyProof.Rows
set_option maxRecDepth 100000 in
set_option maxHeartbeats 0 in
theorem PySem.Challenge.cw_bellnest_k32_depth_where_nothing_is_shut_holds : PySem.Challenge.rw_bellnest_k32_depth_where_nothing_is_shut.Holds := by
 w_on;o_law;k_head;(case hw=>w_witness2)
 k_fill
 refine Bell.walk (l:=PySem.Challenge.rw_bellnest_k32_depth_where_nothing_is_shut) Bell.law_true rfl (λw=>by kernel_rfl) (λw=>by kernel_rfl) rfl rfl rfl (λw h Y=>PySem.W.km_in_of Y) ?F
 case F=>
  intro w mg h KX G;refine' Bell.defs_mk KX G ?_ ⟨?_,?_,?_,?_⟩ ?_ ⟨?_,?_,?_,?_⟩ ?_ ⟨?_,?_,?_,?_⟩ ?_ ⟨?_,?_,?_,?_⟩ ?_ ⟨?_,?_,?_,?_⟩ ?_ ⟨?_,?_,?_,?_⟩ ?_ ⟨?_,?_,?_,?_⟩ ?_ ⟨?_,?_,?_,?_⟩ ?_ ⟨?_,?_,?_,?_⟩ ?_ ⟨?_,?_,?_,?_⟩ ?_ ⟨?_,?_,?_,?_⟩ (Bell.lp ?_ ?_ ?_ ?_) (Bell.lp ?_ ?_ ?_ ?_) (Bell.lp ?_ ?_ ?_ ?_) (Bell.lp ?_ ?_ ?_ ?_) (Bell.lp ?_ ?_ ?_ ?_) (Bell.lp ?_ ?_ ?_ ?_) (Bell.lp ?_ ?_ ?_ ?_) (Bell.lp ?_ ?_ ?_ ?_) (Bell.lp ?_ ?_ ?_ ?_) (Bell.lp ?_ ?_ ?_ ?_) (Bell.lp ?_ ?_ ?_ ?_) (Bell.lp ?_ ?_ ?_ ?_) (Bell.lp ?_ ?_ ?_ ?_) (Bell.lp ?_ ?_ ?_ ?_) ?_ ?_ ?_ ?_ (Bell.lp ?_ ?_ ?_ ?_) (Bell.lp ?_ ?_ ?_ ?_) (Bell.lp ?_ ?_ ?_ ?_) (Bell.lp ?_ ?_ ?_ ?_) (Bell.lp ?_ ?_ ?_ ?_) (Bell.lp ?_ ?_ ?_ ?_) (Bell.lp ?_ ?_ ?_ ?_) (Bell.lp ?_ ?_ ?_ ?_) (Bell.li ?_ ?_ ?_ ?_ ?_ ?_ ?_ ?_ ?_ ?_) (Bell.li ?_ ?_ ?_ ?_ ?_ ?_ ?_ ?_ ?_ ?_) (Bell.li ?_ ?_ ?_ ?_ ?_ ?_ ?_ ?_ ?_ ?_) (Bell.li ?_ ?_ ?_ ?_ ?_ ?_ ?_ ?_ ?_ ?_) (Bell.li ?_ ?_ ?_ ?_ ?_ ?_ ?_ ?_ ?_ ?_) (Bell.li ?_ ?_ ?_ ?_ ?_ ?_ ?_ ?_ ?_ ?_) (Bell.li ?_ ?_ ?_ ?_ ?_ ?_ ?_ ?_ ?_ ?_) (Bell.li ?_ ?_ ?_ ?_ ?_ ?_ ?_ ?_ ?_ ?_) (Bell.li ?_ ?_ ?_ ?_ ?_ ?_ ?_ ?_ ?_ ?_) (Bell.li ?_ ?_ ?_ ?_ ?_ ?_ ?_ ?_ ?_ ?_) (Bell.li ?_ ?_ ?_ ?_ ?_ ?_ ?_ ?_ ?_ ?_) (Bell.lp ?_ ?_ ?_ ?_) (Bell.lp ?_ ?_ ?_ ?_) ?_ ?_ ?_ ?_ ?_ ?_ ?_ ?_ ?_ ?_ ?_ (Bell.lm ?_ ?_ ?_ ?_) ?_ ?_ ?_ (Bell.lm ?_ ?_ ?_ ?_) (Bell.lp ?_ ?_ ?_ ?_) ?_ ?_ ?_ ?_ ?_ ?_ ?_ ?_ ?_ ?_ ?_ (Bell.lm ?_ ?_ ?_ ?_) ?_ ?_ ?_ ?_ ?_ ?_ ?_ ?_ ?_ ?_ ?_ (Bell.lm ?_ ?_ ?_ ?_) ?_ ?_ ?_ (Bell.lm ?_ ?_ ?_ ?_) ?_ (Bell.lm ?_ ?_ ?_ ?_) ?_ (Bell.lm ?_ ?_ ?_ ?_) ?_ ?_ ?_ ?_ ?_ ?_ (Bell.lm ?_ ?_ ?_ ?_) ?_ (Bell.lm ?_ ?_ ?_ ?_) ?_ (Bell.lm ?_ ?_ ?_ ?_) ?_ (Bell.lm ?_ ?_ ?_ ?_) (Bell.lp ?_ ?_ ?_ ?_) (Bell.lp ?_ ?_ ?_ ?_) (Bell.lp ?_ ?_ ?_ ?_) (Bell.lp ?_ ?_ ?_ ?_) ?_ ?_ ?_ ?_ ?_ ?_ ?_ ?_ ?_ ?_ ?_ ?_ ?_ ?_ ?_ ?_ ?_ ?_ ?_ ?_ ?_ ?_ ?_ ?_ ?_ ?_ ?_
  all_goals (try k_is)
