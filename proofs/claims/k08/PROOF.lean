import PyProof.Rows.All
import Wide.All
import OpenK.AllK
import Wide.FinOn
import Lean
import PyProof.EqAt
import PyProof.EqKinds
import PyProof.TupleCall
import PySem.SetOps
import KE.KMinKey
import PySem.Challenge.RW_bellnest_k08_stretches
abbrev Q7:=PySem.Value
abbrev Q8:=PySem.Shared
abbrev Q9:=PySem.Addr
abbrev Va:=PySem.Program
abbrev Vb:=PySem.World
abbrev Vc:=PySem.Heap
abbrev Vd:=PySem.Expr
abbrev Ve:=PySem.Stmt
abbrev Vf:=PySem.Around
abbrev Vg:=String
noncomputable section
set_option Elab.async false
set_option linter.all false
set_option maxRecDepth 100000
open PySem.W (Frag KdlSrc codeIn emptyDict findCls findIn fnOf handedIn hasDictIn instObj isFn keepIn kia_one kitOne kitx_dict kitx_list lookIn makesIn methodObj mg_none_of mg_of nsIn plainGet plainGet_of plainOver readsIn specialIn takerIn)
open List (all_eq_true append_assoc append_nil cons_append cons_ne_nil drop_length foldl_cons forIn_cons forIn_nil getD_eq_getElem?_getD getElem?_eq_getElem getElem?_eq_none getElem?_map getElem?_range getElem?_set_ne getElem?_set_self getElem_map getElem_mem length_append length_cons length_drop length_map length_range length_replicate length_set length_singleton length_take length_zipWith lookup_cons map_append map_cons map_map map_nil map_take mem_append mem_append_right mem_cons mem_cons_of_mem mem_cons_self mem_map mem_range mem_singleton nil_append nodup_cons pairwise_cons range_succ replicate size_toArray take_length zipIdx_cons zipIdx_nil zipWith zip_cons_cons)
open PySem.Heap (get?_push_of_some get?_push_size lt_size size_push)
open Nat (le_add_right le_of_eq le_of_lt le_refl le_trans lt_irrefl lt_of_lt_of_le lt_succ_of_lt ne_of_gt ne_of_lt sub_self zero_le)
open Array (getElem?_toList length_toList)
open Int (toNat_natCast)
namespace L2
open PySem PySem.Spec PyProof.Rows
abbrev Key:=Sum Int Str
def ES:Key->Q7->Bool
 |.inl k,v=>Value.isInt k v
 |.inr x,v=>Value.isStrOf x v
def Jn(w:Vb):Key->Int
 |.inl k=>hashInt k
 |.inr x=>hashStr w x
theorem cy:∀{k:Key}{v:Q7},ES k v=true->(∃i t,k=Sum.inl i/\v=Value.int i t)\/(∃x t,k=Sum.inr x/\v=Value.str x t)
 |.inl i,v,h=>by
  obtain⟨t,e⟩:=Value.isInt_shape (k:=i) (v:=v) h;exact .inl ⟨i,t,rfl,e⟩
 |.inr x,v,h=>by
  obtain⟨t,e⟩:=Value.isStrOf_shape (x:=x) (v:=v) h;exact .inr ⟨x,t,rfl,e⟩
theorem Ge(a b:Int):decide ((Sum.inl a:Key)=Sum.inl b)=(a == b):=by
 by_cases e:a=b
 ·subst e;simp
 ·have h:¬(Sum.inl a:Key)=Sum.inl b:=λq=>e (Sum.inl.inj q);rw[decide_eq_false h];exact(beq_eq_false_iff_ne.mpr e).symm
theorem Gb(a b:Str):decide ((Sum.inr a:Key)=Sum.inr b)=decide (a=b):=by
 by_cases e:a=b
 ·subst e;simp
 ·have h:¬(Sum.inr a:Key)=Sum.inr b:=λq=>e (Sum.inr.inj q);rw[decide_eq_false h,decide_eq_false e]
theorem Gd(a:Int)(b:Str):decide ((Sum.inl a:Key)=Sum.inr b)=false:=decide_eq_false (λq=>nomatch q)
theorem Gc(a:Str)(b:Int):decide ((Sum.inr a:Key)=Sum.inl b)=false:=decide_eq_false (λq=>nomatch q)
def yA(prog:Va)(w:Vb):PySem.KeyKind prog w Key where
 is:=ES
 hash:=Jn w
 inj:=λv a b ha hb=>by
  rcases cy ha with⟨i,t,rfl,rfl⟩|⟨x,t,rfl,rfl⟩
  ·rcases cy hb with⟨j,u,rfl,e⟩|⟨y,u,rfl,e⟩
   ·injection e with e1 _;rw[e1]
   ·exact nomatch e
  ·rcases cy hb with⟨j,u,rfl,e⟩|⟨y,u,rfl,e⟩
   ·exact nomatch e
   ·injection e with e1 _;rw[e1]
 byValue:=λk v h=>by
  rcases cy h with⟨i,t,rfl,rfl⟩|⟨x,t,rfl,rfl⟩ <;> rfl
 pyHash:=λhv h=>by
  rcases cy hv with⟨i,t,rfl,rfl⟩|⟨x,t,rfl,rfl⟩
  ·exact wpAny_pyHash_int h
  ·exact wpAny_pyHash_str h
 eqBool:=λhu hv h=>by
  rcases cy hu with⟨i,t,rfl,rfl⟩|⟨x,t,rfl,rfl⟩
  ·rcases cy hv with⟨j,u,rfl,rfl⟩|⟨y,u,rfl,rfl⟩
   ·rw[Ge] at h;exact wpAny_eqBool_int h
   ·rw[Gd] at h;exact SeqAt.EqAt.int_str i t y u _ _ _ _ h
  ·rcases cy hv with⟨j,u,rfl,rfl⟩|⟨y,u,rfl,rfl⟩
   ·rw[Gc] at h;exact SeqAt.EqAt.str_int x t j u _ _ _ _ h
   ·rw[Gb] at h;exact wpAny_eqBool_str h
 «strs»:=λk x t v h=>by
  rcases cy h with⟨i,u,rfl,e⟩|⟨y,u,rfl,e⟩
  ·exact nomatch e
  ·injection e with e1 _;subst e1;cases v <;> rfl
inductive V where
 |non|bl (b:Bool)|int (i:Int)|str (x:Str)|byt (b:Array UInt8)|flt (b:UInt64)|ref (a:Q9)|ty (n:Vg)
 deriving DecidableEq
def RelV:V->Q7->Prop
 |.non,u=>u=Value.none
 |.bl b,u=>u=Value.bool b
 |.int i,u=>∃t,u=Value.int i t
 |.str x,u=>∃t,u=Value.str x t
 |.byt b,u=>∃t,u=Value.bytes b t
 |.flt b,u=>∃t,u=Value.float b t
 |.ref a,u=>u=Value.ref a
 |.ty n,u=>u=Value.type n
abbrev Vals:List V->List Q7->Prop:=Paired RelV
theorem Vals.length{xs:List V}{us:List Q7}(r:Vals xs us):xs.length=us.length:=Paired.length r
theorem Vals.get:∀{xs:List V}{us:List Q7}{i:Nat}{x:V},Vals xs us->xs[i]?=some x->∃u,us[i]?=some u/\RelV x u
 |_,_,_,_,.nil,e=>by simp at e
 |_,_,0,_,.cons r _,e=>by simp at e;subst e;exact⟨_,rfl,r⟩
 |_,_,i+1,x,.cons _ t,e=>by
  obtain⟨u,h1,h2⟩:=Vals.get (i:=i) (x:=x) t (by simpa using e)
  exact⟨u,by simpa using h1,h2⟩
theorem Vals.set{x:V}{u:Q7}(r:RelV x u):∀{xs:List V}{us:List Q7}(i:Nat),Vals xs us->Vals (xs.set i x) (us.set i u)
 |_,_,_,.nil=>.nil
 |_,_,0,.cons _ t=>.cons r t
 |_,_,i+1,.cons q t=>.cons q (Vals.set r i t)
theorem Vals.append:∀{xs ys:List V}{us ws:List Q7},Vals xs us->Vals ys ws->Vals (xs++ys) (us++ws)
 |_,_,_,_,.nil,s=>s
 |_,_,_,_,.cons r t,s=>.cons r (Vals.append t s)
theorem Vals.take:∀{xs:List V}{us:List Q7}(n:Nat),Vals xs us->Vals (xs.take n) (us.take n)
 |_,_,0,_=>.nil
 |_,_,_+1,.nil=>.nil
 |_,_,n+1,.cons r t=>.cons r (Vals.take n t)
theorem Vals.drop:∀{xs:List V}{us:List Q7}(n:Nat),Vals xs us->Vals (xs.drop n) (us.drop n)
 |_,_,0,r=>r
 |_,_,_+1,.nil=>.nil
 |_,_,n+1,.cons _ t=>Vals.drop n t
def RelO:Option V->Option Q7->Prop
 |some v,some u=>RelV v u
 |none,none=>True
 |_,_=>False
def KV{κ:Type}:List (κ×V)->List (κ×Q7)->Prop:=Paired λ(p:κ×V)(q:κ×Q7)=>p.1=q.1/\RelV p.2 q.2
def kV:Key->V
 |.inl i=>.int i
 |.inr x=>.str x
inductive HO where
 |lst (xs:List V)
 |tup (xs:List V)
 |dK (kvs:List (Key×V))|dT (kvs:List (List Key×V))
 |set (S:Int->Bool) (n:Nat)
 |ins (C dx:Q9) (fs:List (Str×V))
 |own (x:Q9)
 |xd (fs:List (Str×V))
 |met (f x:Q9)
 |rng (lo hi:Int)
 |frz (o:Obj) (u:HO)
 |tbl (ps:Array Q7)
 |tab (good:Pos->Option Str)
 |fnc (c:Q9) (q:Str)
 |big (u:HO) (T:List (Q9×List V))
 |ext (φ:Vc->Prop)
abbrev Hp:=Q9->Option HO
def bW(H:Hp)(a:Q9)(o:HO):Hp:=λb=>if b=a then some o else H b
theorem aF{H:Hp}{a:Q9}{o:HO}:bW H a o a=some o:=by unfold bW;rw[if_pos rfl]
theorem ak{H:Hp}{a b:Q9}{o:HO}(h:b≠a):bW H a o b=H b:=by unfold bW;rw[if_neg h]
theorem bc{H:Hp}{a b:Q9}{o:HO}(h:H a=some o)(h':H b=none):a≠b:=by
 intro e;subst e;rw[h] at h';cases h'
section
variable(P:Va)(w:Vb)
def bM(H:Hp)(h:Vc)(a:Q9):HO->Prop
 |.lst xs=>xs.length<=sizeLine/\∃(its:List Q7)(n:Nat),Vals xs its/\h.get? a=some {cls:=.type "list",data:=.seq its.toArray n}
 |.tup xs=>xs.length<=sizeLine/\∃its:List Q7,Vals xs its/\IsTup h a its.toArray
 |.dK kvs=>kvs.length<=sizeLine/\(a == sysModules)=false/\∃vs,KV kvs vs/\h.DictOf (yA P w) a vs
 |.dT kvs=>kvs.length<=sizeLine/\(a == sysModules)=false/\∃xs:List (List Key×Q9×Q7),
   Paired (λ(p:List Key×V)(q:List Key×Q9×Q7)=>p.1=q.1/\H q.2.1=some (.tup (p.1.map kV))/\RelV p.2 q.2.2) kvs xs/\
   ∃o es ep,h.get? a=some o/\o.ExactDict/\o.data=.dict es ep/\es.toList=xs.map (entryOfKey (tupleKind (yA P w)))/\(xs.map (·.1)).Nodup
 |.set S n=>h.SetOf (intKind P w) a S n
 |.ins C dx fs=>H dx=some (.own a)/\fs.length<=1000/\dx≠a/\h.get? a=some (instObj C dx)/\
   ∃mA,h.Ns1 dx mA/\(∀f,RelO (fs.lookup f) (mA f))/\PySem.Within mA (fs.map (·.1))
 |.own _=>∃o,h.get? a=some o
 |.xd fs=>∃mA,h.Ns1 a mA/\∀f,RelO (fs.lookup f) (mA f)
 |.rng lo hi=>∃t u v,h.get? a=some {cls:=.type "range",data:=.fields #[.int lo t,.int hi u,.int 1 v]}
 |.frz o u=>h.get? a=some o/\bM H h a u
 |.tbl ps=>h.get? a=some {cls:=.none,data:=.fields ps}
 |.tab good=>∃ps:Array Q7,h.get? a=some {cls:=.none,data:=.fields ps}/\TriplesOk ps.toList/\∀p cv,(good p).isSome=true->codeAmong p ps.toList=some cv->∃(c:Q9)(oc:Obj)(q:Str)(vs:Array Q7)(t:Tok),cv=.ref c/\H c=some (.frz oc (.own c))/\good p=some q/\oc.data=.fields vs/\vs[1]?=some (.str q t)
 |.fnc c q=>(∃o,h.get? a=some o)/\∃(oc:Obj)(vs:Array Q7)(t:Tok),H c=some (.frz oc (.own c))/\oc.data=.fields vs/\vs[1]?=some (.str q t)
 |.met f x=>h.get? a=some (methodObj (.ref f) (.ref x))
 |.big u T=>bM H h a u/\(T.map (·.1)).Nodup/\∀p∈T,p.1≠a/\H p.1=some (.own a)/\p.2.length<=sizeLine/\∃(its:List Q7)(n:Nat),Vals p.2 its/\h.get? p.1=some {cls:=.type "list",data:=.seq its.toArray n}
 |.ext φ=>φ h/\(∃o,h.get? a=some o)/\∀h1 h2:Vc,φ h1->(∀o,h1.get? a=some o->h2.get? a=some o)->φ h2
def nZ(H:Hp)(h:Vc):Prop:=∀a o,H a=some o->bM P w H h a o
end
section
variable{P:Va}{w:Vb}{H H':Hp}{h h':Vc}{a:Q9}{o:HO}
theorem bM.lt(x:bM P w H h a o):a<h.objs.size:=by
 induction o with
 |big u T ih=>exact ih x.1
 |lst xs=>obtain⟨_,_,_,_,e⟩:=x;exact lt_size e
 |tup xs=>obtain⟨_,_,_,p⟩:=x;exact p.lt
 |dK kvs=>obtain⟨_,_,_,_,o,_,_,e,_⟩:=x;exact lt_size e
 |dT kvs=>obtain⟨_,_,_,_,o,_,_,e,_⟩:=x;exact lt_size e
 |set S n=>obtain⟨o,_,_,_,e,_⟩:=x;exact lt_size e
 |ins C dx fs=>obtain⟨_,_,_,e,_⟩:=x;exact lt_size e
 |own y=>obtain⟨_,e⟩:=x;exact lt_size e
 |xd fs=>obtain⟨_,⟨_,_,_,e,_⟩,_⟩:=x;exact lt_size e
 |rng lo hi=>obtain⟨_,_,_,e⟩:=x;exact lt_size e
 |frz ob u=>obtain⟨e,_⟩:=x;exact lt_size e
 |tbl ps=>exact lt_size (show h.get? a=some _ from x)
 |tab good=>obtain⟨_,e,_⟩:=x;exact lt_size e
 |fnc c q=>obtain⟨⟨_,e⟩,_⟩:=x;exact lt_size e
 |met f y=>exact lt_size (show h.get? a=some _ from x)
 |ext φ=>obtain⟨_,⟨_,e⟩,_⟩:=x;exact lt_size e
theorem Paired.mapP{α β:Type}{F G:α->β->Prop}:∀{l₁:List α}{l₂:List β},Paired F l₁ l₂->(∀a b,F a b->G a b)->Paired G l₁ l₂
 |_,_,.nil,_=>.nil
 |_,_,.cons r t,f=>.cons (f _ _ r) (Paired.mapP t f)
theorem bM.stay(x:bM P w H h a o)(k:∀b u,(b=a\/H b=some (.own a))->h.get? b=some u->h'.get? b=some u)
  (ho:∀b,H b=some (.own a)->H' b=some (.own a)) (ht:∀b xs,H b=some (.tup xs)->H' b=some (.tup xs)) (hf:∀b ob y,H b=some (.frz ob (.own y))->H' b=some (.frz ob (.own y))):bM P w H' h' a o:=by
 induction o with
 |lst xs=>obtain⟨z,its,n,r,e⟩:=x;exact⟨z,its,n,r,k _ _ (.inl rfl) e⟩
 |tup xs=>obtain⟨z,its,r,ob,e,c⟩:=x;exact⟨z,its,r,ob,k _ _ (.inl rfl) e,c⟩
 |dK kvs=>obtain⟨z,y,vs,r,ob,es,ep,e,c⟩:=x;exact⟨z,y,vs,r,ob,es,ep,k _ _ (.inl rfl) e,c⟩
 |dT kvs=>
  obtain⟨z,y,xs,r,ob,es,ep,e,c⟩:=x;exact⟨z,y,xs,Paired.mapP r λp q z=>⟨z.1,ht _ _ z.2.1,z.2.2⟩,ob,es,ep,k _ _ (.inl rfl) e,c⟩
 |set S n=>obtain⟨ob,es,ep,t,e,c⟩:=x;exact⟨ob,es,ep,t,k _ _ (.inl rfl) e,c⟩
 |ins C dx fs=>
  obtain⟨d,z,ne,e,mA,⟨od,es,ep,e2,c⟩,r⟩:=x;exact⟨ho _ d,z,ne,k _ _ (.inl rfl) e,mA,⟨od,es,ep,k _ _ (.inr d) e2,c⟩,r⟩
 |own y=>obtain⟨ob,e⟩:=x;exact⟨ob,k _ _ (.inl rfl) e⟩
 |xd fs=>obtain⟨mA,⟨od,es,ep,e,c⟩,r⟩:=x;exact⟨mA,⟨od,es,ep,k _ _ (.inl rfl) e,c⟩,r⟩
 |rng lo hi=>obtain⟨t,u,v,e⟩:=x;exact⟨t,u,v,k _ _ (.inl rfl) e⟩
 |frz ob u ih=>obtain⟨e,q⟩:=x;exact⟨k _ _ (.inl rfl) e,ih q⟩
 |tbl ps=>
  have e:h.get? a=some {cls:=.none,data:=.fields ps}:=x;show h'.get? a=some {cls:=.none,data:=.fields ps};exact k a _ (.inl rfl) e
 |tab good=>
  obtain⟨ps,e,tr,q⟩:=x;refine⟨ps,k a _ (.inl rfl) e,tr,λp cv hg hc=>?_⟩;obtain⟨c,oc,qq,vs,t,e1,e2,e3⟩:=q p cv hg hc;exact⟨c,oc,qq,vs,t,e1,hf _ _ _ e2,e3⟩
 |fnc c q=>
  obtain⟨⟨ob,e⟩,oc,vs,t,e1,e2⟩:=x;exact⟨⟨ob,k _ _ (.inl rfl) e⟩,oc,vs,t,hf _ _ _ e1,e2⟩
 |met f y=>
  have e:h.get? a=some (methodObj (.ref f) (.ref y)):=x;show h'.get? a=some (methodObj (.ref f) (.ref y));exact k a _ (.inl rfl) e
 |big u T ih=>
  obtain⟨q,nd,f⟩:=x;refine⟨ih q,nd,λp hp=>?_⟩;obtain⟨h1,h2,h3,its,n,r,e⟩:=f p hp;exact⟨h1,ho _ h2,h3,its,n,r,k _ _ (.inr h2) e⟩
 |ext φ=>obtain⟨p,⟨o,e⟩,st⟩:=x;exact⟨st _ _ p λo q=>k _ _ (.inl rfl) q,⟨o,k _ _ (.inl rfl) e⟩,st⟩
theorem nZ.lt(x:nZ P w H h)(e:H a=some o):a<h.objs.size:=(x a o e).lt
theorem nZ.fresh(x:nZ P w H h)(e:h.objs.size<=a):H a=none:=by
 cases q:H a with
 |none=>rfl
 |some u=>exact absurd (lt_of_lt_of_le (x.lt q) e) (lt_irrefl _)
theorem nZ.kept(x:nZ P w H h)(k:∀b u,h.get? b=some u->h'.get? b=some u):nZ P w H h':=λa o e=>
 (x a o e).stay (λb u _ q=>k b u q) (λ_ q=>q) (λ_ _ q=>q) λ_ _ _ q=>q
theorem nZ.laid(x:nZ P w H h)(k:∀b u,h.get? b=some u->h'.get? b=some u)(hp:h.objs.size<=a)(new:bM P w (bW H a o) h' a o):nZ P w (bW H a o) h':=λb u e=>by
 have hn:=x.fresh hp;by_cases hb:b=a
 ·subst hb;rw[aF] at e;cases e;exact new
 ·rw[ak hb] at e;exact(x b u e).stay (λc v _ q=>k c v q) (λc q=>by rw[ak (bc q hn)];exact q) (λc xs q=>by rw[ak (bc q hn)];exact q) λc ob u q=>by rw[ak (bc q hn)];exact q
end
def Rd(H:Hp)(a:Q9)(u:HO):Prop:=H a=some u\/∃o,H a=some (.frz o u)
theorem Rd.ok{P:Va}{w:Vb}{H:Hp}{h:Vc}{a:Q9}{u:HO}(r:Rd H a u)(x:nZ P w H h):bM P w H h a u:=by
 rcases r with r|⟨o,r⟩
 ·exact x a u r
 ·obtain⟨_,q⟩:=x a _ r;exact q
def IF:Option HO->Prop
 |some (.lst _)=>True
 |some (.dK _)=>True
 |some (.dT _)=>True
 |some (.set _ _)=>True
 |some (.ins _ _ _)=>True
 |some (.ext _)=>True
 |_=>False
section
variable{P:Va}{w:Vb}{H:Hp}{h h':Vc}{x e:Q9}{o':HO}
theorem nZ.write(ok:nZ P w H h)(mu:IF (H x))(he:e=x\/H e=some (.own x))(k:∀b u,b≠e->h.get? b=some u->h'.get? b=some u)(heo:∃u,h'.get? e=some u)
  (new:bM P w (bW H x o') h' x o'):nZ P w (bW H x o') h':=λb u q=>by
 have nown:∀c y,H c=some (.own y)->c≠x:=λc y r z=>by subst z;rw[r] at mu;exact mu
 have ntup:∀c xs,H c=some (.tup xs)->c≠x:=λc xs r z=>by subst z;rw[r] at mu;exact mu
 have nfrz:∀c ob u,H c=some (.frz ob u)->c≠x:=λc ob u r z=>by subst z;rw[r] at mu;exact mu
 by_cases hb:b=x
 ·subst hb;rw[aF] at q;cases q;exact new
 ·rw[ak hb] at q;by_cases hbe:b=e
  ·have q':H b=some (.own x):=by
    rcases he with z|z
    ·exact absurd (hbe.trans z) hb
    ·rw[hbe];exact z
   rw[q] at q';cases q';obtain⟨v,hv⟩:=heo;exact⟨v,by rw[hbe];exact hv⟩
  ·refine(ok b u q).stay (λc v hc r=>k c v ?_ r) (λc r=>by rw[ak (nown c b r)];exact r) (λc xs r=>by rw[ak (ntup c xs r)];exact r) λc ob v r=>by rw[ak (nfrz c ob _ r)];exact r
   rcases hc with rfl|hc
   ·exact hbe
   ·rintro rfl
    rcases he with z|z
    ·exact nown c b hc z
    ·rw[hc] at z;cases z;exact hb rfl
end
structure Un(fs ex:List Q9)(H H':Hp)(h h':Vc):Prop where
 keep:∀b o,h.get? b=some o->H b=none->b∉fs->b∉ex->h'.get? b=some o
 slot:∀b o,h.get? b=some o->H b=none->b∈fs->b∉ex->∃sl,h'.get? b=some {o with slots:=sl}
 free:∀b o,h.get? b=some o->H b=none->b∉ex->H' b=none
 there:∀b o,h.get? b=some o->b∉ex->∃o',h'.get? b=some o'
 tups:∀b xs,H b=some (.tup xs)->H' b=some (.tup xs)
 frzs:∀b o u,H b=some (.frz o u)->H' b=some (.frz o u)
 tbls:∀b ps,H b=some (.tbl ps)->∃more,H' b=some (.tbl (ps++more))
section
variable{fs fs' ex ex':List Q9}{H H1 H2:Hp}{h h1 h2 h':Vc}{a x e:Q9}{o:HO}
theorem Un.any(u:Un fs ex H H1 h h1){b:Q9}{ob:Obj}(q:h.get? b=some ob)(n:H b=none)(hx:b∉ex):∃sl,h1.get? b=some {ob with slots:=sl}:=by
 by_cases hb:b∈fs
 ·exact u.slot b ob q n hb hx
 ·exact⟨ob.slots,u.keep b ob q n hb hx⟩
theorem Un.kept(k:∀b u,h.get? b=some u->h'.get? b=some u):Un fs ex H H h h':=
 ⟨λb ob q _ _ _=>k b ob q,λb ob q _ _ _=>⟨ob.slots,k b ob q⟩,λ_ _ _ n _=>n,λb ob q _=>⟨ob,k b ob q⟩,λ_ _ q=>q,λ_ _ _ q=>q,λ_ ps q=>⟨#[],by rw[q];simp⟩⟩
theorem Un.refl:Un fs ex H H h h:=Un.kept λ_ _ q=>q
theorem Un.laid(k:∀b u,h.get? b=some u->h'.get? b=some u)(hp:h.objs.size<=a)(hn:H a=none):Un fs ex H (bW H a o) h h' where
 keep:=λb u q _ _ _=>k b u q
 slot:=λb u q _ _ _=>⟨u.slots,k b u q⟩
 free:=λb u q n _=>by rw[ak (ne_of_lt (lt_of_lt_of_le (lt_size q) hp))];exact n
 there:=λb u q _=>⟨u,k b u q⟩
 tups:=λb xs q=>by rw[ak (bc q hn)];exact q
 frzs:=λb u xs q=>by rw[ak (bc q hn)];exact q
 tbls:=λb ps q=>⟨#[],by rw[ak (bc q hn),q];simp⟩
theorem Un.write(mu:IF (H x))(he:e=x\/H e=some (.own x))(k:∀b u,b≠e->h.get? b=some u->h'.get? b=some u)(heo:∃u,h'.get? e=some u):Un fs ex H (bW H x o) h h':=by
 have hx:∀b,H b=none->b≠x:=λb n z=>by subst z;rw[n] at mu;exact mu
 have hb:∀b,H b=none->b≠e:=λb n z=>by
  subst z;rcases he with r|r
  ·exact hx b n r
  ·rw[n] at r;cases r
 have hm:∀b u,H b=some u->¬IF (some u)->b≠x:=λb u q nm z=>by subst z;rw[q] at mu;exact nm mu
 refine⟨λb u q n _ _=>k b u (hb b n) q,λb u q n _ _=>⟨u.slots,k b u (hb b n) q⟩,λb u q n _=>by rw[ak (hx b n)];exact n,λb u q _=>?_,
  λb xs q=>by rw[ak (hm b _ q λz=>z)];exact q,λb u xs q=>by rw[ak (hm b _ q λz=>z)];exact q,λb ps q=>⟨#[],by rw[ak (hm b _ q λz=>z),q];simp⟩⟩
 by_cases hbe:b=e
 ·subst hbe;exact heo
 ·exact⟨u,k b u hbe q⟩
end
def Iz(h:Vc)(H:Hp):List Q9:=(List.range h.objs.size).filter λa=>(H a).isSome
def tF(h:Vc)(H:Hp):Vc:=PySem.W.hideAll h (Iz h H)
theorem A7(h:Vc)(H:Hp):(tF h H).objs.size=h.objs.size:=PySem.W.hideAll_size _ _
theorem Ce{h:Vc}{H:Hp}{b:Q9}{o:Obj}(e:h.get? b=some o)(n:H b=none):(tF h H).get? b=some o:=
 PySem.W.hideAll_get _ e λhm=>by
  have q:(H b).isSome=true:=(List.mem_filter.mp hm).2;rw[n] at q;simp at q
theorem DM{h:Vc}{H:Hp}{b:Q9}{o:Obj}(e:(tF h H).get? b=some o):h.get? b=some o/\H b=none:=by
 have e':h.get? b=some o:=PySem.W.of_hideAll (Iz h H) e;refine⟨e',?_⟩;cases q:H b with
 |none=>rfl
 |some x=>
  have hm:b∈Iz h H:=List.mem_filter.mpr ⟨mem_range.mpr (lt_size e'),by simp[q]⟩
  have z:(tF h H).get? b=none:=PySem.W.hideAll_none (Iz h H) hm;rw[z] at e;cases e
def EC(g h:Vc)(L:Q9):List (Q9×Obj):=(List.range h.objs.size).filterMap λa=>if a=L\/(g.get? a).isSome=true then none else(h.get? a).map λo=>(a,o)
def rest(g h:Vc)(L d:Q9):List (Q9×Obj):=(EC g h L).filter λp=>decide (p.1≠d)
structure Mod(K:Frag)(mg:Str->Option Q7)(base:Vc):Prop where
 kin:K.In base
 glob:base.Ns mainGlobals mg
 blt:∃mb,base.Ns builtinsNs mb/\∀x:Str,x ≠ "__name__" -> mb x=bootBuiltins x
 nolimit:base.NoLimit
structure Cx where
 prog:Va
 w:Vb
 K:Frag
 mg:Str->Option Q7
 base:Vc
 A:Vf
 N:List Str
 s₀:Q8
 H₀:Hp
 env:Env
 outer:List Env
 stack:List Env
 ex:List Q9
 fn:Str->Bool
 calm:Bool
 pn:List (Q9×Obj)
 xe:Q7->Q8->Prop
def frs(l:List Env):List Q9:=l.filterMap (·.frame)
abbrev Cx.fs(X:Cx):List Q9:=frs X.outer
def Ij(sc:Scope)(x:Str):Prop:=sc.names.lookup x=some .local\/sc.names.lookup x=some .cell\/sc.names.lookup x=some .free
def rO(sc:Scope)(x:Str):Prop:=sc.names.lookup x=some .local\/sc.names.lookup x=some .cell
def JE(env:Env)(h:Vc)(m:Str->Option Q7)(x:Str)(u:Q7):Prop:=
 (env.kindOf x=some .local/\m x=some u)\/((env.kindOf x=some .cell\/env.kindOf x=some .free)/\∃c,env.cells.lookup x=some c/\h.IsCell c (some u))
structure Cx.Ok(X:Cx):Prop where
 mod:Mod X.K X.mg X.base
 kind:X.env.scope.kind=.function
 glob:X.env.globals=mainGlobals
 blt:X.env.builtins=builtinsNs
 above:X.s₀.heap.objs.size<=X.env.locals
 inj:∀x y c,X.env.cells.lookup x=some c->X.env.cells.lookup y=some c->x=y
 has:∀x,(X.env.kindOf x=some .cell\/X.env.kindOf x=some .free)->∃c,X.env.cells.lookup x=some c
 cab:∀x c,X.fn x=true->X.env.cells.lookup x=some c->X.s₀.heap.objs.size<=c
 hd:X.calm=true->X.A.handled=none
 frames:X.A.frames=some X.stack
 stk:X.stack=X.outer\/(X.stack=X.env::X.outer/\X.env.frame=some X.env.locals)
 exf:∀b∈X.ex,b≠X.env.locals/\∀x c,X.env.cells.lookup x=some c->c≠b
 bs:∀b o,X.base.get? b=some o->X.s₀.heap.get? b=some o/\X.H₀ b=none
 bsz:X.base.objs.size<=X.s₀.heap.objs.size
 noex:∀b o,X.base.get? b=some o->b∉X.ex
 exfs:∀b∈X.ex,b∉X.fs
 funs:X.s₀.heap.FunFrames X.base X.outer
 frf:∀b∈X.fs,X.H₀ b=none
structure aD(X:Cx)(pins:List (Q9×Obj))(σ:List (Option V))(H:Hp)(s:Q8):Prop where
 ok:X.Ok
 os:s.os=X.s₀.os
 bare:AllBare s.gens
 base:Un X.fs X.ex X.H₀ H X.s₀.heap s.heap
 loc:∃m,s.heap.Ns X.env.locals m/\∀(i:Nat)(x:Str)(v:V),X.N[i]?=some x->σ[i]?=some (some v)->Ij X.env.scope x->∃u,RelV v u/\JE X.env s.heap m x u
 cell:∀x c,X.env.cells.lookup x=some c->∃v,s.heap.IsCell c v
 free:H X.env.locals=none
 freeC:∀x c,X.env.cells.lookup x=some c->H c=none
 pin:∀p∈X.pn++pins,s.heap.get? p.1=some p.2/\H p.1=none/\p.1≠X.env.locals/\p.1∉X.fs/\∀v,p.2.data≠.cell v
 hok:nZ X.prog X.w H s.heap
 len:σ.length=X.N.length
section
variable{X:Cx}{pins:List (Q9×Obj)}{σ:List (Option V)}{H H':Hp}{s:Q8}{h':Vc}
theorem Cx.Ok.nofr(ok:X.Ok){b:Q9}{o:Obj}(e:X.base.get? b=some o):b∉X.fs:=λhb=>by
 have:=(ok.funs.mem hb).1;rw[e] at this;cases this
theorem aD.bs(I:aD X pins σ H s):∀b o,X.base.get? b=some o->s.heap.get? b=some o/\H b=none:=λb o e=>
 ⟨I.base.keep b o (I.ok.bs b o e).1 (I.ok.bs b o e).2 (I.ok.nofr e) (I.ok.noex b o e),I.base.free b o (I.ok.bs b o e).1 (I.ok.bs b o e).2 (I.ok.noex b o e)⟩
theorem aD.bk(I:aD X pins σ H s):∀b o,X.base.get? b=some o->s.heap.get? b=some o:=λb o e=>(I.bs b o e).1
theorem aD.mod(I:aD X pins σ H s):Mod X.K X.mg X.base:=I.ok.mod
theorem aD.kIn(I:aD X pins σ H s):X.K.In s.heap:=I.ok.mod.kin.keeps I.bk
theorem aD.lt(I:aD X pins σ H s):X.env.locals<s.heap.objs.size:=let ⟨_,hn,_⟩:=I.loc;hn.lt
theorem aD.sz(I:aD X pins σ H s):X.s₀.heap.objs.size<=s.heap.objs.size:=le_trans I.ok.above (le_of_lt I.lt)
theorem aD.nofs(I:aD X pins σ H s){a:Q9}(h:s.heap.objs.size<=a):a∉X.fs:=λhb=>by
 obtain⟨_,o,ho,_⟩:=I.ok.funs.mem hb;exact absurd (lt_of_lt_of_le (lt_size ho) (le_trans I.sz h)) (lt_irrefl _)
theorem aD.cne(I:aD X pins σ H s):∀x c,X.env.cells.lookup x=some c->c≠X.env.locals:=λx c e z=>by
 obtain⟨v,o,ho,hd⟩:=I.cell x c e;obtain⟨m,⟨o',es,ep,ho',hd',_⟩,_⟩:=I.loc;rw[z,ho'] at ho;cases ho;rw[hd'] at hd;cases hd
theorem aD.funs(I:aD X pins σ H s):s.heap.FunFrames X.base X.outer:=by
 have all:∀(l:List Env),(∀b∈frs l,b∈X.fs)->X.s₀.heap.FunFrames X.base l->s.heap.FunFrames X.base l:=by
  intro l
  induction l with
  |nil=>intro _ _;trivial
  |cons env r ih=>
   intro hs hl;obtain⟨hk,⟨L,o,hf,hn,ho,hd⟩,hr⟩:=hl;have hL:L∈X.fs:=hs L (by unfold frs;rw[List.filterMap_cons,hf];exact mem_cons_self)
   obtain⟨sl,e⟩:=I.base.slot L o ho (I.ok.frf L hL) hL λz=>I.ok.exfs L z hL;exact⟨hk,⟨L,_,hf,hn,e,hd⟩,ih (λb hb=>hs b (by unfold frs;rw[List.filterMap_cons,hf];exact mem_cons_of_mem _ hb)) hr⟩
 exact all X.outer (λ_ hb=>hb) I.ok.funs
theorem aD.stack(I:aD X pins σ H s):s.heap.FunFrames X.base X.stack:=by
 rcases I.ok.stk with e|⟨e,hf⟩
 ·rw[e];exact I.funs
 ·rw[e];obtain⟨m,hn,_⟩:=I.loc;refine .cons (by rw[I.ok.kind];decide) hf hn ?_ I.funs
  exact Heap.get?_none_of_le (le_trans I.ok.bsz I.ok.above)
theorem aD.stkSub(I:aD X pins σ H s):∀b∈frs X.stack,b∈X.env.locals::X.fs:=λb hb=>by
 rcases I.ok.stk with e|⟨e,hf⟩
 ·rw[e] at hb;exact mem_cons_of_mem _ hb
 ·rw[e] at hb;unfold frs at hb;rw[List.filterMap_cons,hf] at hb;exact hb
theorem aD.stkFree(I:aD X pins σ H s):∀b∈frs X.stack,H b=none:=λb hb=>by
 rcases mem_cons.mp (I.stkSub b hb) with e|hb
 ·rw[e];exact I.free
 ·obtain⟨_,o,ho,_⟩:=I.ok.funs.mem hb;exact I.base.free b o ho (I.ok.frf b hb) λz=>I.ok.exfs b z hb
theorem aD.step{g':Array GenState}{t':Nat}{d':Drawn}{ch:List Q9}(I:aD X pins σ H s)
  (hch:∀b∈ch,(b∈X.ex\/X.s₀.heap.objs.size<=b)/\b≠X.env.locals/\(∀x c,X.env.cells.lookup x=some c->c≠b)/\∀p∈X.pn++pins,p.1≠b)
  (keep:∀b o,b≠X.env.locals->b∉X.fs->b∉ch->s.heap.get? b=some o->H b=none->h'.get? b=some o)
  (slot:∀b o,b≠X.env.locals->b∈X.fs->b∉ch->s.heap.get? b=some o->H b=none->∃sl,h'.get? b=some {o with slots:=sl}) (free:∀b o,b∉ch->s.heap.get? b=some o->H b=none->H' b=none)
  (there:∀b o,b∉ch->s.heap.get? b=some o->∃o',h'.get? b=some o')
  (tups:∀b xs,H b=some (.tup xs)->H' b=some (.tup xs)) (frzs:∀b o u,H b=some (.frz o u)->H' b=some (.frz o u)) (tbls:∀b ps,H b=some (.tbl ps)->∃more,H' b=some (.tbl (ps++more)))
  (ns:∀m,s.heap.Ns X.env.locals m->h'.Ns X.env.locals m) (hok:nZ X.prog X.w H' h') (hg:AllBare g'):
  aD X pins σ H' {s with heap:=h',gens:=g',drawn:=d',toks:=t'}:=by
 have neL:∀b o,X.s₀.heap.get? b=some o->b≠X.env.locals:=λb o e=>ne_of_lt (lt_of_lt_of_le (lt_size e) I.ok.above);have neC:∀b o,X.s₀.heap.get? b=some o->b∉X.ex->b∉ch:=λb o e hx hb=>by
  rcases(hch b hb).1 with z|z
  ·exact hx z
  ·exact absurd (lt_of_lt_of_le (lt_size e) z) (lt_irrefl _)
 have cellK:∀x c,X.env.cells.lookup x=some c->∀v,s.heap.IsCell c v->h'.IsCell c v:=λx c e v ⟨o,ho,hd⟩=>by
  have nch:c∉ch:=λz=>(hch c z).2.2.1 x c e rfl;by_cases hc:c∈X.fs
  ·obtain⟨sl,q⟩:=slot c o (I.cne x c e) hc nch ho (I.freeC x c e);exact⟨_,q,hd⟩
  ·exact⟨o,keep c o (I.cne x c e) hc nch ho (I.freeC x c e),hd⟩
 refine⟨I.ok,I.os,hg,⟨λb o e n hb hx=>?_,λb o e n hb hx=>?_,λb o e n hx=>?_,λb o e hx=>?_,λb xs e=>tups b xs (I.base.tups b xs e),λb o xs e=>frzs b o xs (I.base.frzs b o xs e),λb ps e=>?_⟩,?_,λx c e=>?_,?_,λx c e=>?_,λp hp=>?_,hok,I.len⟩
 ·exact keep b o (neL b o e) hb (neC b o e hx) (I.base.keep b o e n hb hx) (I.base.free b o e n hx)
 ·obtain⟨sl,e1⟩:=I.base.slot b o e n hb hx;obtain⟨sl',e2⟩:=slot b _ (neL b o e) hb (neC b o e hx) e1 (I.base.free b o e n hx);exact⟨sl',e2⟩
 ·obtain⟨o',e1⟩:=I.base.there b o e hx;exact free b o' (neC b o e hx) e1 (I.base.free b o e n hx)
 ·obtain⟨o',e1⟩:=I.base.there b o e hx;exact there b o' (neC b o e hx) e1
 ·obtain⟨m1,e1⟩:=I.base.tbls b ps e;obtain⟨m2,e2⟩:=tbls b _ e1;exact⟨m1++m2,by rw[e2,Array.append_assoc]⟩
 ·obtain⟨m,hn,hl⟩:=I.loc;refine⟨m,ns m hn,λi x v e1 e2 e3=>?_⟩;obtain⟨u,r,l⟩:=hl i x v e1 e2 e3;refine⟨u,r,?_⟩;rcases l with l|⟨k,c,e,z⟩
  ·exact .inl l
  ·exact .inr ⟨k,c,e,cellK x c e _ z⟩
 ·obtain⟨v,z⟩:=I.cell x c e;exact⟨v,cellK x c e v z⟩
 ·obtain⟨m,⟨o,_,_,ho,_⟩,_⟩:=I.loc;exact free _ o (λz=>(hch _ z).2.1 rfl) ho I.free
 ·obtain⟨v,o,ho,hd⟩:=I.cell x c e;exact free c o (λz=>(hch c z).2.2.1 x c e rfl) ho (I.freeC x c e)
 ·obtain⟨e,n,ne,nf,d⟩:=I.pin p hp;have nch:p.1∉ch:=λz=>(hch p.1 z).2.2.2 p hp rfl;exact⟨keep p.1 p.2 ne nf nch e n,free p.1 p.2 nch e n,ne,nf,d⟩
theorem aD.un{t':Nat}(I:aD X pins σ H s)(u:Un X.fs [] H H' s.heap h')(hok:nZ X.prog X.w H' h'):aD X pins σ H' {s with heap:=h',toks:=t'}:=by
 obtain⟨m,⟨o,es,ep,ho,r⟩,_⟩:=id I.loc;obtain⟨sl,hL⟩:=u.any ho I.free (by simp)
 exact I.step (g':=s.gens) (d':=s.drawn) (ch:=[]) (λ_ z=>nomatch z) (λb o _ hb _ e n=>u.keep b o e n hb (by simp)) (λb o _ hb _ e n=>u.slot b o e n hb (by simp)) (λb o _ e n=>u.free b o e n (by simp)) (λb o _ e=>u.there b o e (by simp)) u.tups u.frzs u.tbls (λm' hm=>by
  obtain⟨o',es',ep',ho',r'⟩:=hm;rw[ho] at ho';cases ho';exact⟨_,es',ep',hL,r'⟩) hok I.bare
theorem aD.call{g':Array GenState}{t':Nat}{d':Drawn}{ch:List Q9}(I:aD X pins σ H s)(u:Un (frs X.stack) ch H H' s.heap h')(hok:nZ X.prog X.w H' h')(hg:AllBare g')
  (hch:∀b∈ch,(b∈X.ex\/X.s₀.heap.objs.size<=b)/\b≠X.env.locals/\(∀x c,X.env.cells.lookup x=some c->c≠b)/\∀p∈X.pn++pins,p.1≠b):
  aD X pins σ H' {s with heap:=h',gens:=g',drawn:=d',toks:=t'}:=by
 obtain⟨m,⟨o,es,ep,ho,r⟩,_⟩:=id I.loc;obtain⟨sl,hL⟩:=u.any ho I.free λz=>(hch _ z).2.1 rfl;exact I.step (ch:=ch) hch (λb o hL hb hc e n=>u.keep b o e n (λz=>(mem_cons.mp (I.stkSub b z)).elim hL hb) hc) (λb o _ _ hc e n=>u.any e n hc) (λb o hc e n=>u.free b o e n hc) (λb o hc e=>u.there b o e hc) u.tups u.frzs u.tbls (λm' hm=>by
  obtain⟨o',es',ep',ho',r'⟩:=hm;rw[ho] at ho';cases ho';exact⟨_,es',ep',hL,r'⟩) hok hg
theorem aD.turned{t':Nat}{it:Q9}(I:aD X pins σ H s)(k:∀b o,b≠it->s.heap.get? b=some o->h'.get? b=some o)(hn:H it=none)(hL:it≠X.env.locals)
  (h1:it∈X.ex\/X.s₀.heap.objs.size<=it) (h2:∀x c,X.env.cells.lookup x=some c->c≠it) (h3:∀p∈X.pn++pins,p.1≠it):aD X pins σ H {s with heap:=h',toks:=t'}:=by
 have nit:∀b u,H b=some u->b≠it:=λb u e z=>by rw[z,hn] at e;cases e
 refine I.step (g':=s.gens) (d':=s.drawn) (ch:=[it]) (λb hb=>?_) (λb o _ _ hc e _=>k b o (λz=>hc (by simp[z])) e) (λb o _ _ hc e _=>⟨o.slots,k b o (λz=>hc (by simp[z])) e⟩) (λ_ _ _ _ n=>n)
  (λb o hc e=>⟨o,k b o (λz=>hc (by simp[z])) e⟩) (λ_ _ e=>e) (λ_ _ _ e=>e) (λb ps e=>⟨#[],by rw[e];simp⟩) (λm hm=>?_) (λb u e=>?_) I.bare
 ·have e:b=it:=by simpa using hb
  subst e;exact⟨h1,hL,h2,h3⟩
 ·obtain⟨o,es,ep,ho,r⟩:=hm;exact⟨o,es,ep,k _ o (Ne.symm hL) ho,r⟩
 ·refine(I.hok b u e).stay (λc v hc q=>k c v ?_ q) (λ_ q=>q) (λ_ _ q=>q) λ_ _ _ q=>q;rcases hc with z|z
  ·rw[z];exact nit b u e
  ·exact nit c _ z
theorem aD.tok(I:aD X pins σ H s)(t:Nat):aD X pins σ H {s with toks:=t}:=I.un (h':=s.heap) (t':=t) Un.refl I.hok
theorem aD.kept{t':Nat}(I:aD X pins σ H s)(k:∀b u,s.heap.get? b=some u->h'.get? b=some u):aD X pins σ H {s with heap:=h',toks:=t'}:=I.un (Un.kept k) (I.hok.kept k)
theorem aD.laid{a:Q9}{o:HO}{t':Nat}(I:aD X pins σ H s)(k:∀b u,s.heap.get? b=some u->h'.get? b=some u)(hp:s.heap.objs.size<=a)(new:bM X.prog X.w (bW H a o) h' a o):
  aD X pins σ (bW H a o) {s with heap:=h',toks:=t'}:=I.un (Un.laid k hp (I.hok.fresh hp)) (I.hok.laid k hp new)
theorem aD.write{x e:Q9}{o:HO}{t':Nat}(I:aD X pins σ H s)(mu:IF (H x))(he:e=x\/H e=some (.own x))(k:∀b u,b≠e->s.heap.get? b=some u->h'.get? b=some u)(heo:∃u,h'.get? e=some u)
  (new:bM X.prog X.w (bW H x o) h' x o):aD X pins σ (bW H x o) {s with heap:=h',toks:=t'}:=I.un (Un.write mu he k heo) (I.hok.write mu he k heo new)
theorem aD.pins_of{pins':List (Q9×Obj)}(I:aD X pins σ H s)(h:∀p∈pins',s.heap.get? p.1=some p.2/\H p.1=none/\p.1≠X.env.locals/\p.1∉X.fs/\∀v,p.2.data≠.cell v):aD X pins' σ H s:=
 ⟨I.ok,I.os,I.bare,I.base,I.loc,I.cell,I.free,I.freeC,λp hp=>(mem_append.mp hp).elim (λz=>I.pin p (List.mem_append_left _ z)) (h p),I.hok,I.len⟩
theorem vk{N:List Str}(hN:N.Nodup){i j:Nat}{x:Str}(a:N[i]?=some x)(b:N[j]?=some x):i=j:=by
 obtain⟨h1,e1⟩:=List.getElem?_eq_some_iff.mp a;obtain⟨h2,e2⟩:=List.getElem?_eq_some_iff.mp b;exact(List.getElem_inj hN).mp (e1.trans e2.symm)
theorem qH{M:Model}{A:Vf}{E:Q7->Q8->Prop}{i:Nat}{x:Str}{v:V}{u:Q7}{Q:Unit->Q8->Prop}(I:aD X pins σ H s)(hN:X.N.Nodup)(hi:X.N[i]?=some x)(hx:rO X.env.scope x)(r:RelV v u)
  (h:∀s',aD X pins (σ.set i (some v)) H s'->(∃a,Heap.SameBut a s.heap s'.heap/\(a=X.env.locals\/X.env.cells.lookup x=some a))->Q () s') (hf:X.fn x=true\/X.env.scope.names.lookup x=some .local:=by first|exact .inl rfl|exact .inr rfl|assumption):wpAny M A (storeName X.env x u) Q E s:=by
 obtain⟨m,hn,hl⟩:=id I.loc;have hcls:(X.env.scope.kind == .class || (X.env.scope.kind == .module && X.env.locals != X.env.globals))=false:=by rw[I.ok.kind];rfl
 have hiσ:i<σ.length:=by rw[I.len];exact(List.getElem?_eq_some_iff.mp hi).1
 have cne:=I.cne;have tracked:∀{a:Q9}{h':Vc},(∃o,s.heap.get? a=some o/\H a=none)->Heap.SameBut a s.heap h'->nZ X.prog X.w H h':=λ{a h'} ha hs b ob e=>by
  obtain⟨_,_,hfree⟩:=ha;refine(I.hok b ob e).stay (λc w' hc q=>(hs.2 c ?_).trans q) (λ_ q=>q) (λ_ _ q=>q) λ_ _ _ q=>q
  rintro rfl
  rcases hc with rfl|hc
  ·rw[hfree] at e;cases e
  ·rw[hfree] at hc;cases hc
 rcases hx with hk|hk
 ·refine wpAny_storeName_local hk hn (λh' hn' hs=>?_) hcls;obtain⟨oL,_,_,hoL,_⟩:=id hn;refine h _ ⟨I.ok,I.os,I.bare,⟨λb o e n hb hx=>?_,λb o e n hb hx=>?_,I.base.free,λb o e hx=>?_,I.base.tups,I.base.frzs,I.base.tbls⟩,⟨_,hn',λj y v' e1 e2 e3=>?_⟩,λy c e=>?_,I.free,I.freeC,λp hp=>?_,tracked ⟨oL,hoL,I.free⟩ hs,by simpa using I.len⟩ ⟨_,hs,.inl rfl⟩
  ·exact(hs.2 b (ne_of_lt (lt_of_lt_of_le (lt_size e) I.ok.above))).trans (I.base.keep b o e n hb hx)
  ·obtain⟨sl,e1⟩:=I.base.slot b o e n hb hx;exact⟨sl,(hs.2 b (ne_of_lt (lt_of_lt_of_le (lt_size e) I.ok.above))).trans e1⟩
  ·obtain⟨o',e1⟩:=I.base.there b o e hx;exact⟨o',(hs.2 b (ne_of_lt (lt_of_lt_of_le (lt_size e) I.ok.above))).trans e1⟩
  ·by_cases hj:j=i
   ·subst hj;rw[hi] at e1;cases e1;rw[getElem?_set_self hiσ] at e2;cases e2;exact⟨u,r,.inl ⟨hk,by simp⟩⟩
   ·rw[getElem?_set_ne (Ne.symm hj)] at e2;obtain⟨u',r',q⟩:=hl j y v' e1 e2 e3;refine⟨u',r',?_⟩;rcases q with⟨k,e⟩|⟨k,c,e,z⟩
    ·refine .inl ⟨k,?_⟩;have:y≠x:=λe=>hj (vk hN e1 (e▸hi));simp[this,e]
    ·exact .inr ⟨k,c,e,z.sameBut hs (cne y c e)⟩
  ·obtain⟨w',z⟩:=I.cell y c e;exact⟨w',z.sameBut hs (cne y c e)⟩
  ·obtain⟨e,n,ne,nf,d⟩:=I.pin p hp;exact⟨(hs.2 p.1 ne).trans e,n,ne,nf,d⟩
 ·have hfn:X.fn x=true:=by
   rcases hf with z|z
   ·exact z
   ·rw[z] at hk;cases hk
  obtain⟨c,hc⟩:=I.ok.has x (.inl hk);obtain⟨w',z⟩:=I.cell x c hc;refine wpAny_storeName_cell I.ok.kind hk hc z (λh' hc' hs=>?_);obtain⟨oc,hoc,hocd⟩:=id z;refine h {s with heap:=h'} ⟨I.ok,I.os,I.bare,⟨λb o e n hb hx=>?_,λb o e n hb hx=>?_,I.base.free,λb o e hx=>?_,I.base.tups,I.base.frzs,I.base.tbls⟩,⟨m,hn.sameBut hs (Ne.symm (cne x c hc)),λj y v' e1 e2 e3=>?_⟩,λy c' e=>?_,I.free,I.freeC,λp hp=>?_,tracked ⟨oc,hoc,I.freeC x c hc⟩ hs,by simpa using I.len⟩ ⟨c,hs,.inr hc⟩
  ·exact(hs.2 b (ne_of_lt (lt_of_lt_of_le (lt_size e) (I.ok.cab x c hfn hc)))).trans (I.base.keep b o e n hb hx)
  ·obtain⟨sl,e1⟩:=I.base.slot b o e n hb hx;exact⟨sl,(hs.2 b (ne_of_lt (lt_of_lt_of_le (lt_size e) (I.ok.cab x c hfn hc)))).trans e1⟩
  ·obtain⟨o',e1⟩:=I.base.there b o e hx;exact⟨o',(hs.2 b (ne_of_lt (lt_of_lt_of_le (lt_size e) (I.ok.cab x c hfn hc)))).trans e1⟩
  ·by_cases hj:j=i
   ·subst hj;rw[hi] at e1;cases e1;rw[getElem?_set_self hiσ] at e2;cases e2;exact⟨u,r,.inr ⟨.inl hk,c,hc,hc'⟩⟩
   ·rw[getElem?_set_ne (Ne.symm hj)] at e2;obtain⟨u',r',q⟩:=hl j y v' e1 e2 e3;refine⟨u',r',?_⟩;rcases q with q|⟨k,c',e,z'⟩
    ·exact .inl q
    ·refine .inr ⟨k,c',e,z'.sameBut hs ?_⟩
     rintro rfl
     exact hj (vk hN e1 (I.ok.inj _ _ _ e hc▸hi))
  ·by_cases hcc:c'=c
   ·subst hcc;exact⟨_,hc'⟩
   ·obtain⟨w2,z2⟩:=I.cell y c' e;exact⟨w2,z2.sameBut hs hcc⟩
  ·obtain⟨e,n,ne,nf,d⟩:=I.pin p hp;refine⟨(hs.2 p.1 ?_).trans e,n,ne,nf,d⟩;intro q;rw[q,hoc] at e;have q':oc=p.2:=Option.some.inj e;exact d w' (by rw[<-q'];exact hocd)
theorem uE{M:Model}{A:Vf}{E:Q7->Q8->Prop}{i:Nat}{x:Str}{v:V}{u:Q7}{Q:Unit->Q8->Prop}(I:aD X pins σ H s)(hN:X.N.Nodup)(hi:X.N[i]?=some x)(hx:rO X.env.scope x)(r:RelV v u)
  (h:∀s',aD X pins (σ.set i (some v)) H s'->Q () s') (hf:X.fn x=true\/X.env.scope.names.lookup x=some .local:=by first|exact .inl rfl|exact .inr rfl|assumption):wpAny M A (storeName X.env x u) Q E s:=
 qH I hN hi hx r (λs' I' _=>h s' I') hf
theorem aD.call'{s':Q8}{ch:List Q9}(I:aD X pins σ H s)(ho:s'.os=s.os)(u:Un (frs X.stack) ch H H' s.heap s'.heap)(hok:nZ X.prog X.w H' s'.heap)(hg:AllBare s'.gens)
  (hch:∀b∈ch,(b∈X.ex\/X.s₀.heap.objs.size<=b)/\b≠X.env.locals/\(∀x c,X.env.cells.lookup x=some c->c≠b)/\∀p∈X.pn++pins,p.1≠b):aD X pins σ H' s':=by
 obtain⟨h',g',d',t',o'⟩:=s';have e:o'=s.os:=ho;subst e;exact I.call (g':=g') (t':=t') (d':=d') u hok hg hch
end
abbrev XK:=Q7->Option Q9->Hp->Prop
abbrev St:=List (Option V)
abbrev VK:=V->Hp->Prop
abbrev TE:=St->Hp->VK->Prop
abbrev TT:=St->Hp->(Bool->Hp->Prop)->Prop
abbrev TA:=St->Hp->(List V->Hp->Prop)->Prop
structure o3 where
 nx:St->Hp->Prop
 rt:VK
 bk:St->Hp->Prop:=λ_ _=>False
 ct:St->Hp->Prop:=λ_ _=>False
abbrev TS:=o3->St->Hp->Prop
def EP(X:Cx)(pins:List (Q9×Obj))(σ:St)(Q:VK)(u:Q7)(s':Q8):Prop:=∃v H',aD X pins σ H' s'/\RelV v u/\Q v H'
def TP(X:Cx)(pins:List (Q9×Obj))(σ:St)(Q:Bool->Hp->Prop)(b:Bool)(s':Q8):Prop:=∃H',aD X pins σ H' s'/\Q b H'
def AP(X:Cx)(pins:List (Q9×Obj))(σ:St)(Q:List V->Hp->Prop)(us:List Q7)(s':Q8):Prop:=∃vs H',aD X pins σ H' s'/\Vals vs us/\Q vs H'
def SP(X:Cx)(pins:List (Q9×Obj))(D:o3)(f:Flow)(s':Q8):Prop:=
 match f with
 |.next=>∃σ' H',aD X pins σ' H' s'/\D.nx σ' H'
 |.brk=>∃σ' H',aD X pins σ' H' s'/\D.bk σ' H'
 |.cont=>∃σ' H',aD X pins σ' H' s'/\D.ct σ' H'
 |.ret u=>∃v σ' H',aD X pins σ' H' s'/\RelV v u/\D.rt v H'
def PE(X:Cx)(e:Vd)(t:TE):Prop:=
 ∀(pins:List (Q9×Obj))(s:Q8)(σ:St)(H:Hp)(Q:VK),aD X pins σ H s->t σ H Q->wpAny (model X.prog X.w) X.A (eval e X.env) (EP X pins σ Q) X.xe s
def PT(X:Cx)(e:Vd)(t:TT):Prop:=
 ∀(pins:List (Q9×Obj))(s:Q8)(σ:St)(H:Hp)(Q:Bool->Hp->Prop),aD X pins σ H s->t σ H Q->wpAny (model X.prog X.w) X.A (isTrue e X.env (eval e X.env)) (TP X pins σ Q) X.xe s
def PW(X:Cx)(e:Vd)(t:TT):Prop:=
 ∀(whole:Sem Q7)(pins:List (Q9×Obj))(s:Q8)(σ:St)(H:Hp)(Q:Bool->Hp->Prop),aD X pins σ H s->t σ H Q->wpAny (model X.prog X.w) X.A (isTrue e X.env whole) (TP X pins σ Q) X.xe s
theorem PW.pt{X:Cx}{e:Vd}{t:TT}(h:PW X e t):PT X e t:=h _
def PA(X:Cx)(es:List Vd)(t:TA):Prop:=
 ∀(pos:Pos)(pins:List (Q9×Obj))(s:Q8)(σ:St)(H:Hp)(Q:List V->Hp->Prop),aD X pins σ H s->t σ H Q->wpAny (model X.prog X.w) X.A (spliced (backTo pos (starEach es X.env))) (AP X pins σ Q) X.xe s
def PS(X:Cx)(st:Ve)(t:TS):Prop:=
 ∀(pins:List (Q9×Obj))(s:Q8)(σ:St)(H:Hp)(D:o3),aD X pins σ H s->t D σ H->wpAny (model X.prog X.w) X.A (exec st X.env) (SP X pins D) X.xe s
def nv(X:Cx)(st:List Ve)(t:TS):Prop:=
 ∀(pins:List (Q9×Obj))(s:Q8)(σ:St)(H:Hp)(D:o3),aD X pins σ H s->t D σ H->wpAny (model X.prog X.w) X.A (execs st X.env) (SP X pins D) X.xe s
theorem cA{α:Type}{t:Sem α}{Q Q':α->Q8->Prop}{M:Model}{A:Vf}{E:Q7->Q8->Prop}{s:Q8}(h:wpAny M A t Q E s)(hQ:∀a s,Q a s->Q' a s):wpAny M A t Q' E s:=wpAny_mono h hQ λ_ _ x=>x
section
variable{X:Cx}
def mL(i:Nat):TE:=λσ H Q=>∃v,σ[i]?=some (some v)/\Q v H
def tC(v:V):TE:=λ_ H Q=>Q v H
theorem Fz{i:Nat}{x:Str}{pos:Pos}(hN:X.N[i]?=some x)(hv:Ij X.env.scope x)(hd:(x == ("__debug__":Str))=false:=by decide)(hcd:(x == ("__classdict__":Str))=false:=by decide):PE X (.Name x pos) (mL i):=by
 intro pins s σ H Q I h;obtain⟨v,e,h⟩:=h;obtain⟨m,hn,hl⟩:=I.loc;obtain⟨u,r,l⟩:=hl i x v hN e hv;have fin:EP X pins σ Q u s:=⟨v,H,I,r,h⟩;rcases l with⟨hk,hm⟩|⟨hk,c,hc,hcell⟩
 ·exact wpAny_Name (wpAny_loadName_local I.ok.kind hk hn hm fin) hd
 ·rcases hk with hk|hk
  ·exact wpAny_Name (wpAny_loadName_cell I.ok.kind hk hc hcell fin) hd
  ·exact wpAny_Name (wpAny_loadName_free I.ok.kind hk hc hcell fin hcd) hd
theorem x4{i j pos}:PE X (.Constant (.int i) j pos) (tC (.int i)):=λ_ _ _ H _ I h=>wpAny_Constant_int ⟨.int i,H,I.tok _,⟨_,rfl⟩,h⟩
theorem Hz{b j pos}:PE X (.Constant (.bool b) j pos) (tC (.bl b)):=λ_ _ _ H _ I h=>Constant_bool ⟨.bl b,H,I,rfl,h⟩
theorem FD{j pos}:PE X (.Constant .none j pos) (tC .non):=λ_ _ _ H _ I h=>Constant_none ⟨.non,H,I,rfl,h⟩
theorem FB{x j pos}:PE X (.Constant (.str x) j pos) (tC (.str x)):=λ_ _ _ H _ I h=>Calls.Constant_str ⟨.str x,H,I.tok _,⟨_,rfl⟩,h⟩
def Gl(X:Cx)(x:Str):Prop:=X.env.kindOf x=some .globalImplicit
theorem tq{E:Q7->Q8->Prop}{pins:List (Q9×Obj)}{s:Q8}{σ:St}{H:Hp}{x:Str}{u:Q7}{pos:Pos}{Q:Q7->Q8->Prop}(I:aD X pins σ H s)(hg:Gl X x)(hm:X.mg x=some u)(h:Q u s)
  (hd:(x == ("__debug__":Str))=false:=by decide):wpAny (model X.prog X.w) X.A (eval (.Name x pos) X.env) Q E s:=
 Calls.Name_function_global I.ok.kind hg (Calls.loadGlobal_global (by rw[I.ok.glob];exact I.mod.glob.keeps I.bk) hm h) hd
theorem jH{E:Q7->Q8->Prop}{pins:List (Q9×Obj)}{s:Q8}{σ:St}{H:Hp}{x:Str}{u:Q7}{pos:Pos}{Q:Q7->Q8->Prop}(I:aD X pins σ H s)(hg:Gl X x)(hm:X.mg x=none)(hv:bootBuiltins x=some u)(h:Q u s)
  (hn:x ≠ "__name__" := by decide) (hd:(x == ("__debug__":Str))=false:=by decide):wpAny (model X.prog X.w) X.A (eval (.Name x pos) X.env) Q E s:=by
 obtain⟨mb,h1,h2⟩:=I.mod.blt;exact Calls.Name_function_global I.ok.kind hg (Calls.loadGlobal_builtin (by rw[I.ok.glob];exact I.mod.glob.keeps I.bk) hm (by rw[I.ok.blt];exact h1.keeps I.bk) ((h2 x hn).trans hv) h) hd
theorem yt{x:Str}{v:V}{u:Q7}{pos:Pos}(hg:Gl X x)(hm:X.mg x=some u)(r:RelV v u)(hd:(x == ("__debug__":Str))=false:=by decide):PE X (.Name x pos) (tC v):=
 λ_ _ _ H _ I h=>tq I hg hm ⟨v,H,I,r,h⟩ hd
theorem DB{x:Str}{v:V}{u:Q7}{pos:Pos}(hg:Gl X x)(hm:X.mg x=none)(hv:bootBuiltins x=some u)(r:RelV v u)(hn:x ≠ "__name__" := by decide)(hd:(x == ("__debug__":Str))=false:=by decide):PE X (.Name x pos) (tC v):=
 λ_ _ _ H _ I h=>jH I hg hm hv ⟨v,H,I,r,h⟩ hn hd
variable{a b:Vd}{ta tb:TE}{pos:Pos}
def PC(X:Cx)(op:CmpOp)(a b:Vd)(t:TE):Prop:=
 ∀(pins:List (Q9×Obj))(s:Q8)(σ:St)(H:Hp)(Q:VK),aD X pins σ H s->t σ H Q->
  wpAny (model X.prog X.w) X.A (eval a X.env) (λv s₁=>wpAny (model X.prog X.w) X.A (eval b X.env) (λu s₂=>wpAny (model X.prog X.w) X.A (compareOp op v u) (EP X pins σ Q) X.xe s₂) X.xe s₁) X.xe s
theorem vm(b:Vd){op:CmpOp}(h:op≠.In)(h2:op≠.NotIn):behindInMarks op b=false:=by
 have e1:(op == CmpOp.In)=false:=by cases op <;> first|rfl|exact absurd rfl h
 have e2:(op == CmpOp.NotIn)=false:=by cases op <;> first|rfl|exact absurd rfl h2
 cases b <;> simp[behindInMarks,e1,e2]
def IU(ta:TE):TE:=λσ H Q=>ta σ H λx H1=>Q (.bl (decide (x=.non))) H1
theorem RelV.none_iff{x:V}{v:Q7}(r:RelV x v):(v == Value.none)=decide (x=.non):=by
 cases x with
 |non=>cases r;rfl
 |bl _=>cases r;rfl
 |ref _=>cases r;rfl
 |ty _=>cases r;rfl
 |_=>obtain⟨t,rfl⟩:=r;rfl
theorem BJ{j pos'}(ha:PE X a ta):PC X .Is a (.Constant .none j pos') (IU ta):=by
 intro pins s σ H Q I h;refine cA (ha pins s σ H _ I h) λv s1 ⟨x,H1,I1,r1,q1⟩=>?_;exact Constant_none (is_none_gen ⟨.bl _,H1,I1,by rw[r1.none_iff];rfl,q1⟩)
def tB(t:TE):TT:=λσ H Q=>t σ H λx H1=>∃c,x=.bl c/\Q c H1
theorem FE{op:CmpOp}{t:TE}(h:PC X op a b t)(h1:behindInMarks op b=false:=by first|exact vm _ (by decide) (by decide)|rfl):PE X (.Compare a [op] [b] pos) t:=λpins s σ H Q I hw=>wpAny_Compare1 (h pins s σ H Q I hw) h1
theorem Fs{op:CmpOp}{t:TE}(h:PC X op a b t)(h1:behindInMarks op b=false:=by first|exact vm _ (by decide) (by decide)|rfl):PT X (.Compare a [op] [b] pos) (tB t):=by
 intro pins s σ H Q I hw;refine wpAny_isTrue_Compare1 (cA (h pins s σ H _ I hw) λv s1 h1=>cA h1 λu s2 h2=>cA h2 λc s3 ⟨x,H1,I1,r1,q1⟩=>?_) h1;obtain⟨d,rfl,q⟩:=q1;cases r1;exact wpAny_truthy_bool ⟨H1,I1,q⟩
theorem Bl{e:Vd}{t:TE}(h:PE X e t)(he:∀whole,isTrue e X.env whole=(do let v <-whole;standAt e.pos;holding [v] (truthy v)):=by intro _;rfl):PT X e (tB t):=by
 intro pins s σ H Q I hw;refine isTrue_plain (cA (h pins s σ H _ I hw) λv s1 ⟨x,H1,I1,r1,q1⟩=>?_) (he _);obtain⟨d,rfl,q⟩:=q1;cases r1;exact wpAny_truthy_bool ⟨H1,I1,q⟩
variable{tA tB':TT}{rest:List Vd}
def J0(t u:TT):TT:=λσ H Q=>t σ H λc H1=>if c=true then u σ H1 Q else Q false H1
def K1(t u:TT):TT:=λσ H Q=>t σ H λc H1=>if c=true then Q true H1 else u σ H1 Q
def IS(t:TT):TT:=λσ H Q=>t σ H λc H1=>Q (!c) H1
theorem Di(ha:PT X a tA):PW X (.BoolOp .And [a] pos) tA:=by
 intro wh pins s σ H Q I h;refine isTrue_and (cA (ha pins s σ H Q I h) λc s1 e=>?_);cases c with
 |true=>exact isTrue_and_nil e
 |false=>exact e
theorem Fp(ha:PT X a tA):PW X (.BoolOp .Or [a] pos) tA:=by
 intro wh pins s σ H Q I h;refine isTrue_or (cA (ha pins s σ H Q I h) λc s1 e=>?_);cases c with
 |false=>exact isTrue_or_nil e
 |true=>exact e
theorem Fq(ha:PT X a tA)(hb:PW X (.BoolOp .And (b::rest) pos) tB'):PW X (.BoolOp .And (a::b::rest) pos) (J0 tA tB'):=by
 intro wh pins s σ H Q I h;refine isTrue_and (cA (ha pins s σ H _ I h) λc s1 ⟨H1,I1,q1⟩=>?_);cases c with
 |true=>exact hb wh pins s1 σ H1 Q I1 q1
 |false=>exact⟨H1,I1,q1⟩
theorem Hu(ha:PT X a tA)(hb:PW X (.BoolOp .Or (b::rest) pos) tB'):PW X (.BoolOp .Or (a::b::rest) pos) (K1 tA tB'):=by
 intro wh pins s σ H Q I h;refine isTrue_or (cA (ha pins s σ H _ I h) λc s1 ⟨H1,I1,q1⟩=>?_);cases c with
 |true=>exact⟨H1,I1,q1⟩
 |false=>exact hb wh pins s1 σ H1 Q I1 q1
theorem Bm(ha:PT X a tA):PT X (.UnaryOp .Not a pos) (IS tA):=by
 intro pins s σ H Q I h;exact isTrue_not (ha pins s σ H (λc H1=>Q (!c) H1) I h)
def Hh(ta tb:TE):TE:=λσ H Q=>ta σ H λx H1=>∃c,x=.bl c/\if c=true then tb σ H1 Q else Q (.bl false) H1
def IR(ta tb:TE):TE:=λσ H Q=>ta σ H λx H1=>∃c,x=.bl c/\if c=true then Q (.bl true) H1 else tb σ H1 Q
theorem FC{op}{t:TE}(h:PE X a t):PE X (.BoolOp op [a] pos) t:=λpins s σ H Q I hw=>BoolOp_one (h pins s σ H Q I hw)
theorem FF(ha:PE X a ta)(hb:PE X (.BoolOp .And (b::rest) pos) tb):PE X (.BoolOp .And (a::b::rest) pos) (Hh ta tb):=by
 intro pins s σ H Q I h;refine BoolOp_and (cA (ha pins s σ H _ I h) λv s1 ⟨x,H1,I1,r1,q1⟩=>?_);obtain⟨c,rfl,q1⟩:=q1;cases r1;refine wpAny_truthy_bool ?_;cases c with
 |true=>exact hb pins s1 σ H1 Q I1 q1
 |false=>exact⟨.bl false,H1,I1,rfl,q1⟩
theorem Hv(ha:PE X a ta)(hb:PE X (.BoolOp .Or (b::rest) pos) tb):PE X (.BoolOp .Or (a::b::rest) pos) (IR ta tb):=by
 intro pins s σ H Q I h;refine BoolOp_or (cA (ha pins s σ H _ I h) λv s1 ⟨x,H1,I1,r1,q1⟩=>?_);obtain⟨c,rfl,q1⟩:=q1;cases r1;refine wpAny_truthy_bool ?_;cases c with
 |false=>exact hb pins s1 σ H1 Q I1 q1
 |true=>exact⟨.bl true,H1,I1,rfl,q1⟩
def K2(t:TT)(ta tb:TE):TE:=λσ H Q=>t σ H λc H1=>if c=true then ta σ H1 Q else tb σ H1 Q
theorem BB{c:Vd}(hc:PT X c tA)(ha:PE X a ta)(hb:PE X b tb):PE X (.IfExp c a b pos) (K2 tA ta tb):=by
 intro pins s σ H Q I h;refine wpAny_IfExp (cA (hc pins s σ H _ I h) λd s1 ⟨H1,I1,q1⟩=>?_);cases d with
 |true=>exact ha pins s1 σ H1 Q I1 q1
 |false=>exact hb pins s1 σ H1 Q I1 q1
end
def fJ(K:Frag)(H:Hp)(a:Q9)(xs:List V):Prop:=
 Rd H a (.lst xs)\/
  ∃(o:Obj)(its:Array Q7)(n:Nat),K.lookup a=some o/\o.cls=.type "list" /\ o.dict=none/\o.data=.seq its n/\its.size<=sizeLine/\Vals xs its.toList
def jS(K:Frag)(H:Hp)(a:Q9)(xs:List V):Prop:=
 Rd H a (.tup xs)\/
  ∃(o:Obj)(its:Array Q7)(n:Nat),K.lookup a=some o/\o.cls=.type "tuple" /\ o.data=.seq its n/\its.size<=sizeLine/\Vals xs its.toList
def JA:Q7->Option V
 |.none=>some .non
 |.bool b=>some (.bl b)
 |.int i _=>some (.int i)
 |.str x _=>some (.str x)
 |.bytes b _=>some (.byt b)
 |.float b _=>some (.flt b)
 |.ref a=>some (.ref a)
 |.type n=>some (.ty n)
 |_=>none
theorem RelV.abs{x:V}{u:Q7}(r:RelV x u):JA u=some x:=by
 cases x with
 |non=>cases r;rfl
 |bl _=>cases r;rfl
 |ref _=>cases r;rfl
 |ty _=>cases r;rfl
 |_=>obtain⟨t,rfl⟩:=r;rfl
theorem RelV.inj{x y:V}{u:Q7}(r:RelV x u)(q:RelV y u):x=y:=Option.some.inj (r.abs.symm.trans q.abs)
theorem Vals.inj:∀{xs ys:List V}{us:List Q7},Vals xs us->Vals ys us->xs=ys
 |_,_,_,.nil,.nil=>rfl
 |_,_,_,.cons r t,.cons r' t'=>by rw[r.inj r',Vals.inj t t']
section
variable{X:Cx}{pins:List (Q9×Obj)}{σ:St}{H:Hp}{s:Q8}{a:Q9}{xs ys:List V}
theorem fJ.of{K:Frag}(h:H a=some (.lst xs)):fJ K H a xs:=.inl (.inl h)
theorem jS.of{K:Frag}(h:H a=some (.tup xs)):jS K H a xs:=.inl (.inl h)
theorem aD.list(I:aD X pins σ H s)(h:fJ X.K H a xs):∃its:List Q7,Vals xs its/\PlainL s.heap a its.toArray/\xs.length<=sizeLine:=by
 rcases h with h|⟨o,its,n,hk,hc,hd,hs,hz,r⟩
 ·obtain⟨z,its,n,r,e⟩:=h.ok I.hok;exact⟨its,r,⟨_,n,e,rfl,rfl,rfl⟩,z⟩
 ·refine⟨its.toList,r,⟨o,n,I.kIn a o hk,hc,hd,by simpa using hs⟩,?_⟩
  have e:=r.length;simp only[length_toList] at e;omega
theorem aD.tuple(I:aD X pins σ H s)(h:jS X.K H a xs):∃its:List Q7,Vals xs its/\IsTup s.heap a its.toArray/\xs.length<=sizeLine:=by
 rcases h with h|⟨o,its,n,hk,hc,hs,hz,r⟩
 ·obtain⟨z,its,r,p⟩:=h.ok I.hok;exact⟨its,r,p,z⟩
 ·refine⟨its.toList,r,⟨o,I.kIn a o hk,hc,n,by simpa using hs⟩,?_⟩
  have e:=r.length;simp only[length_toList] at e;omega
theorem aD.list_inj(I:aD X pins σ H s)(h:fJ X.K H a xs)(h':fJ X.K H a ys):xs=ys:=by
 obtain⟨its,r,⟨o,n,e,_,_,d⟩,_⟩:=I.list h;obtain⟨its',r',⟨o',n',e',_,_,d'⟩,_⟩:=I.list h';rw[e] at e';cases e';rw[d] at d';injection d' with d1 _;have:its=its':=by simpa using congrArg Array.toList d1
 subst this;exact r.inj r'
theorem aD.tuple_inj(I:aD X pins σ H s)(h:jS X.K H a xs)(h':jS X.K H a ys):xs=ys:=by
 obtain⟨its,r,⟨o,e,_,n,d⟩,_⟩:=I.tuple h;obtain⟨its',r',⟨o',e',_,n',d'⟩,_⟩:=I.tuple h';rw[e] at e';cases e';rw[d] at d';injection d' with d1 _;have:its=its':=by simpa using congrArg Array.toList d1
 subst this;exact r.inj r'
end
abbrev Cx.wish(X:Cx)(E:Q7->Q8->Prop):Cx:={X with xe:=E}
abbrev Cx.nox(X:Cx):Cx:=X.wish λ_ _=>False
theorem Cx.Ok.wish{X:Cx}(ok:X.Ok)(E:Q7->Q8->Prop):(X.wish E).Ok:=
 ⟨ok.mod,ok.kind,ok.glob,ok.blt,ok.above,ok.inj,ok.has,ok.cab,ok.hd,ok.frames,ok.stk,ok.exf,ok.bs,ok.bsz,ok.noex,ok.exfs,ok.funs,ok.frf⟩
theorem Cx.Ok.unwish{X:Cx}{E:Q7->Q8->Prop}(ok:(X.wish E).Ok):X.Ok:=
 ⟨ok.mod,ok.kind,ok.glob,ok.blt,ok.above,ok.inj,ok.has,ok.cab,ok.hd,ok.frames,ok.stk,ok.exf,ok.bs,ok.bsz,ok.noex,ok.exfs,ok.funs,ok.frf⟩
section
variable{X:Cx}{pins:List (Q9×Obj)}{σ:St}{H:Hp}{s:Q8}{E:Q7->Q8->Prop}
theorem aD.wish(I:aD X pins σ H s)(E:Q7->Q8->Prop):aD (X.wish E) pins σ H s:=⟨I.ok.wish E,I.os,I.bare,I.base,I.loc,I.cell,I.free,I.freeC,I.pin,I.hok,I.len⟩
theorem aD.unwish(I:aD (X.wish E) pins σ H s):aD X pins σ H s:=⟨I.ok.unwish,I.os,I.bare,I.base,I.loc,I.cell,I.free,I.freeC,I.pin,I.hok,I.len⟩
theorem SP.unwish{D:o3}{f:Flow}{s':Q8}(h:SP (X.wish E) pins D f s'):SP X pins D f s':=by
 cases f with
 |ret u=>obtain⟨v,σ',H',I,r,q⟩:=h;exact⟨v,σ',H',I.unwish,r,q⟩
 |_=>obtain⟨σ',H',I,q⟩:=h;exact⟨σ',H',I.unwish,q⟩
theorem nv.nox{st:List Ve}{t:TS}(h:nv X.nox st t):nv X st t:=λpins s σ H D I hw=>
 wpAny_mono (h pins s σ H D (I.wish _) hw) (λ_ _ q=>q.unwish) λ_ _ z=>False.elim z
end
section
variable{X:Cx}{st:Ve}{rest:List Ve}{t u:TS}{e:Vd}{te:TE}{pos:Pos}
def Hc:TS:=λD σ H=>D.nx σ H
def IM(t u:TS):TS:=λD σ H=>t {D with nx:=u D} σ H
theorem yo:nv X [] Hc:=λ_ _ σ H _ I h=>wpAny_execs_nil ⟨σ,H,I,h⟩
theorem uW(h1:PS X st t)(h2:nv X rest u):nv X (st::rest) (IM t u):=by
 intro pins s σ H D I h;refine wpAny_execs_cons (cA (h1 pins s σ H {D with nx:=u D} I h) λf s1 q=>?_);cases f with
 |next=>
  obtain⟨σ',H',I',q⟩:=q;exact h2 pins s1 σ' H' D I' q
 |ret v=>exact q
 |_=>exact q
theorem sJ(h1:PS X st t):nv X [st] t:=by
 intro pins s σ H D I h;refine wpAny_execs_cons (cA (h1 pins s σ H D I h) λf s1 q=>?_);cases f with
 |next=>exact wpAny_execs_nil q
 |ret v=>exact q
 |brk=>exact q
 |cont=>exact q
theorem aD.quiet{pins:List (Q9×Obj)}{σ:St}{H:Hp}{s:Q8}(I:aD X pins σ H s):interactive X.env=false:=by simp[interactive,I.ok.kind]
def He(te:TE):TS:=λD σ H=>te σ H λ_ H1=>D.nx σ H1
theorem jV(he:PE X e te)(hs:swapsWith e none pos.line X.env=pure false:=by rfl):PS X (.Expr e pos) (He te):=by
 intro pins s σ H D I h;exact wpAny_Expr_any (cA (he pins s σ H _ I h) λv s1 ⟨x,H1,I1,r1,q1⟩=>⟨σ,H1,I1,q1⟩) I.quiet hs
def IP(te:TE):TS:=λD σ H=>te σ H D.rt
theorem wW(he:PE X e te):PS X (.Return (some e) pos) (IP te):=by
 intro pins s σ H D I h;exact wpAny_Return_some (cA (he pins s σ H _ I h) λv s1 ⟨x,H1,I1,r1,q1⟩=>⟨x,σ,H1,I1,r1,q1⟩)
def IV(c:TT)(t u:TS):TS:=λD σ H=>c σ H λb H1=>if b=true then t D σ H1 else u D σ H1
theorem EL{c:Vd}{a b:List Ve}{tc:TT}(hc:PT X c tc)(ha:nv X a t)(hb:nv X b u):PS X (.If c a b pos) (IV tc t u):=by
 intro pins s σ H D I h;refine wpAny_If (cA (hc pins s σ H _ I h) λd s1 ⟨H1,I1,q1⟩=>?_);cases d with
 |true=>exact ha pins s1 σ H1 D I1 q1
 |false=>exact hb pins s1 σ H1 D I1 q1
end
abbrev TG:=V->St->Hp->(St->Hp->Prop)->Prop
abbrev GI:=List V->St->Hp->(St->Hp->Prop)->Prop
def PG(X:Cx)(target:Vd)(t:TG):Prop:=
 ∀(pins:List (Q9×Obj))(s:Q8)(σ:St)(H:Hp)(v:V)(u:Q7)(Q:St->Hp->Prop),aD X pins σ H s->RelV v u->t v σ H Q->
  wpAny (model X.prog X.w) X.A (assign target X.env u) (λ_ s'=>∃σ' H',aD X pins σ' H' s'/\Q σ' H') X.xe s
def IE(X:Cx)(ts:List Vd)(t:GI):Prop:=
 ∀(pins:List (Q9×Obj))(s:Q8)(σ:St)(H:Hp)(vs:List V)(us:List Q7)(Q:St->Hp->Prop),aD X pins σ H s->Vals vs us->t vs σ H Q->
  wpAny (model X.prog X.w) X.A (assignInOrder ((assignEach ts X.env).map (·.2)) us) (λ_ s'=>∃σ' H',aD X pins σ' H' s'/\Q σ' H') X.xe s
abbrev GH:=V->V->V->Hp->(Hp->Prop)->Prop
def Im(X:Cx)(t:GH):Prop:=
 ∀(pins:List (Q9×Obj))(s:Q8)(σ:St)(H:Hp)(o i v:V)(ov iv u:Q7)(Q:Hp->Prop),aD X pins σ H s->RelV o ov->RelV i iv->RelV v u->t o i v H Q->
  wpAny (model X.prog X.w) X.A (setItem ov iv u) (λ_ s'=>∃H',aD X pins σ H' s'/\Q H') X.xe s
section
variable{X:Cx}{pos:Pos}
def vO(i:Nat):TG:=λv σ H Q=>Q (σ.set i (some v)) H
theorem ia{i:Nat}{x:Str}(hN:X.N.Nodup)(hi:X.N[i]?=some x)(hx:rO X.env.scope x)(hf:X.fn x=true\/X.env.scope.names.lookup x=some .local:=by first|exact .inl rfl|exact .inr rfl|assumption):PG X (.Name x pos) (vO i):=by
 intro pins s σ H v u Q I r h;exact wpAny_assign_Name (uE I hN hi hx r (λs' I'=>⟨_,H,I',h⟩) hf)
def Jw:GI:=λvs σ H Q=>vs=[]/\Q σ H
def I9(t:TG)(u:GI):GI:=λvs σ H Q=>∃v r,vs=v::r/\t v σ H λσ' H'=>u r σ' H' Q
theorem yr:IE X [] Jw:=by
 intro pins s σ H vs us Q I r h;obtain⟨e,h⟩:=h;subst e;cases r;exact assignInOrder_nil ⟨σ,H,I,h⟩
theorem jB{e:Vd}{es:List Vd}{t:TG}{u:GI}(h1:PG X e t)(h2:IE X es u)
  (hs:(assignEach (e::es) X.env).map (·.2)=assign e X.env::(assignEach es X.env).map (·.2):=by rfl):IE X (e::es) (I9 t u):=by
 intro pins s σ H vs us Q I r h;obtain⟨v,vr,e1,h⟩:=h;subst e1;cases r with
 |cons r rr=>
  rw[hs];refine assignInOrder_cons (cA (h1 pins s σ H _ _ _ I r h) λ_ s1 ⟨σ1,H1,I1,q1⟩=>?_);exact h2 pins s1 σ1 H1 _ _ Q I1 rr q1
def Ju(K:Frag)(n:Nat)(t:GI):TG:=λv σ H Q=>∃a xs,v=.ref a/\jS K H a xs/\xs.length=n/\t xs σ H Q
theorem Bx{es:List Vd}{k:Nat}{t:GI}{n:Nat}(hc:X.calm=true)(h:IE X es t)
  (hn:(assignEach es X.env).length=n:=by rfl) (hst:(assignEach es X.env).findIdx? (·.1)=none:=by rfl):PG X (.Tuple es k pos) (Ju X.K n t):=by
 intro pins s σ H v u Q I r hw;obtain⟨a,xs,e1,hq,hl,hw⟩:=hw;subst e1;cases r;obtain⟨its,rv,ht,hz⟩:=I.tuple hq;refine assign_Tuple_tuple (I.ok.hd hc) ht (by simp[hn,<-hl,rv.length]) hst λh' hx=>?_
 have I1:aD X pins σ H {s with heap:=h'}:=I.kept (t':=s.toks) λb o e=>hx b o (ne_of_lt (lt_size e)) e;exact h pins _ σ H xs _ Q I1 (by simpa using rv) hw
def Jv(to ti:TE)(t:GH):TG:=λv σ H Q=>to σ H λo H1=>ti σ H1 λi H2=>t o i v H2 λH3=>Q σ H3
theorem Fy{o i:Vd}{to ti:TE}{t:GH}(ho:PE X o to)(hi:PE X i ti)(hs:Im X t)
  (ha:∀v,assign (.Subscript o i pos) X.env v=(do
   let ov <-holding [v] (eval o X.env);let iv <-holding [v,ov] (eval i X.env)
   standAt pos
   holding [v,ov,iv] (setItem ov iv v)
   release [v,ov,iv] []):=by intro _;rfl):PG X (.Subscript o i pos) (Jv to ti t):=by
 intro pins s σ H v u Q I r h;rw[ha];refine wpAny_bind (wpAny_holding (cA (ho pins s σ H _ I h) λov s1 ⟨x,H1,I1,r1,q1⟩=>?_));refine wpAny_bind (wpAny_holding (cA (hi pins s1 σ H1 _ I1 q1) λiv s2 ⟨y,H2,I2,r2,q2⟩=>?_));refine wpAny_bind (wpAny_standAt (wpAny_bind (wpAny_holding (cA (hs pins s2 σ H2 x y v ov iv u _ I2 r1 r2 r q2) λ_ s3 ⟨H3,I3,q3⟩=>?_))));exact wpAny_release ⟨σ,H3,I3,q3⟩
def B4(te:TE)(g:TG):TS:=λD σ H=>te σ H λx H1=>g x σ H1 D.nx
theorem Fu{tg e:Vd}{te:TE}{g:TG}(he:PE X e te)(hg:PG X tg g)(hs:swapsWithSole [tg] e pos.line X.env=pure false:=by rfl)(hw:swappedStores [tg] e X.env=pure none:=by rfl)
  (h1:(assignEach [tg] X.env).map (·.2)=[assign tg X.env]:=by rfl):PS X (.Assign [tg] e pos) (B4 te g):=by
 intro pins s σ H D I h;refine wpAny_Assign_stores (cA (he pins s σ H _ I h) λv s1 ⟨x,H1,I1,r1,q1⟩=>?_) hs hw;rw[h1];exact cA (hg pins s1 σ H1 x v _ I1 r1 q1) λ_ s2 q=>q
theorem sL{i:Nat}{x:Str}{e:Vd}{te:TE}{pos':Pos}(hN:X.N.Nodup)(hi:X.N[i]?=some x)(hx:rO X.env.scope x)(he:PE X e te)(hs:swapsWith e (some (.Name x pos')) pos.line X.env=pure false:=by rfl)(hf:X.fn x=true\/X.env.scope.names.lookup x=some .local:=by first|exact .inl rfl|exact .inr rfl|assumption):
  PS X (.Assign [.Name x pos'] e pos) (B4 te (vO i)):=by
 intro pins s σ H D I h;refine wpAny_Assign_Name (cA (he pins s σ H _ I h) λv s1 ⟨y,H1,I1,r1,q1⟩=>?_) hs;exact uE I1 hN hi hx r1 (λs2 I2=>⟨_,H1,I2,q1⟩) hf
end
structure It where
 go:Nat->Hp->Prop
 yld:Nat->Hp->V->Hp->Prop
 stop:Nat->Hp->Prop
def FpOk(X:Cx)(pins:List (Q9×Obj))(H:Hp)(b:Q9):Prop:=
 H b=none/\b≠X.env.locals/\b∉X.fs/\(b∈X.ex\/X.s₀.heap.objs.size<=b)/\(∀x c,X.env.cells.lookup x=some c->c≠b)/\∀p∈X.pn++pins,p.1≠b
theorem aD.fpOk{X:Cx}{pins:List (Q9×Obj)}{σ:St}{H H':Hp}{s:Q8}{b:Q9}(I:aD X pins σ H s)(hb:s.heap.objs.size<=b)(hn:H' b=none):FpOk X pins H' b:=by
 refine⟨hn,ne_of_gt (lt_of_lt_of_le I.lt hb),I.nofs hb,.inr (le_trans I.sz hb),λx c e z=>?_,λp hp z=>?_⟩
 ·obtain⟨v,q⟩:=I.cell x c e;exact absurd (lt_of_lt_of_le q.lt (by rw[z];exact hb)) (lt_irrefl _)
 ·exact absurd (lt_of_lt_of_le (lt_size (I.pin p hp).1) (by rw[z];exact hb)) (lt_irrefl _)
structure u7(P:Va)(w:Vb)(K:Frag)(tg:Vd)(J:It)(fp:List Q9)(it:Q9)(tn:Nat->Vc->Prop):Prop where
 mem:it∈fp
 obj:∀i h,tn i h->∀b∈fp,∃o,h.get? b=some o/\∀v,o.data≠.cell v
 keep:∀i h h',tn i h->(∀b∈fp,∀o,h.get? b=some o->h'.get? b=some o)->tn i h'
 item:∀(X:Cx),X.prog=P->X.w=w->X.K=K->X.calm=true->∀(i:Nat)(pins:List (Q9×Obj))(s:Q8)(σ:St)(H:Hp)(E:Q7->Q8->Prop),aD X pins σ H s->(∀b∈fp,FpOk X pins H b)->tn i s.heap->J.go i H->
  wpAny (model P w) X.A (pyNext (.ref it)) (λr s1=>∃u,r=some u/\
   wpAny (model P w) X.A (letOwnedTupleGo tg (.ref it) u) (λ_ s2=>∃x H',aD X pins σ H' s2/\RelV x u/\J.yld i H x H'/\tn (i+1) s2.heap/\∀b∈fp,H' b=none) E s1) E s
 done:∀(X:Cx),X.prog=P->X.w=w->X.K=K->X.calm=true->∀(i:Nat)(pins:List (Q9×Obj))(s:Q8)(σ:St)(H:Hp)(E:Q7->Q8->Prop),aD X pins σ H s->(∀b∈fp,FpOk X pins H b)->tn i s.heap->J.stop i H->
  wpAny (model P w) X.A (pyNext (.ref it)) (λr s1=>r=none/\aD X pins σ H s1) E s
 self:∀(A:Vf)(i:Nat)(s:Q8)(Q:Q7->Q8->Prop)(E:Q7->Q8->Prop),tn i s.heap->Q (.ref it) s->wpAny (model P w) A (pyIter (.ref it)) Q E s
abbrev TI:=St->Hp->(It->Hp->Prop)->Prop
def JT(X:Cx)(pins:List (Q9×Obj))(σ:St)(tg:Vd)(R:It->Hp->Prop)(itv:Q7)(s2:Q8):Prop:=
 ∃(it:Q9)(fp:List Q9)(tn:Nat->Vc->Prop)(J:It)(H':Hp),itv=.ref it/\aD X pins σ H' s2/\u7 X.prog X.w X.K tg J fp it tn/\tn 0 s2.heap/\(∀b∈fp,FpOk X pins H' b)/\R J H'
def PI(X:Cx)(tg iter:Vd)(wi:TI):Prop:=
 ∀(pins:List (Q9×Obj))(s:Q8)(σ:St)(H:Hp)(R:It->Hp->Prop),aD X pins σ H s->wi σ H R->
  wpAny (model X.prog X.w) X.A (eval iter X.env) (λv s1=>wpAny (model X.prog X.w) X.A (pyIter v) (JT X pins σ tg R) X.xe s1) X.xe s
theorem yO{M:Model}{A:Vf}{E:Q7->Q8->Prop}{s:Q8}{tg:Vd}{it:Q9}{u:Q7}{o:Obj}{n:Vg}{vs:Array Q7}{Q:Unit->Q8->Prop}(ho:s.heap.get? it=some o)(hc:o.cls=.type n)(hd:o.data=.fields vs)
  (hn:["enumerate","zip","dict_itemiterator","dict_reverseitemiterator","odict_iterator","itertools.zip_longest","itertools.pairwise"].contains n=false) (hQ:Q () s):wpAny M A (letOwnedTupleGo tg (.ref it) u) Q E s:=by
 unfold letOwnedTupleGo;cases tg <;> first
  |exact wpAny_pure hQ
  | (cases u <;> first
      |exact wpAny_pure hQ
      | (refine wpAny_bind (wpAny_load ho ?_)
         rw[hc,hd];show wpAny M A (if(["enumerate","zip","dict_itemiterator","dict_reverseitemiterator","odict_iterator","itertools.zip_longest","itertools.pairwise"].contains n && vs[0]? == some (rawInt _))=true then _ else _) Q E s;rw[if_neg (by intro h;rw[hn,Bool.false_and] at h;cases h)]
         exact wpAny_pure hQ))
def JH(K:Frag)(a:Q9):It:=
 ⟨λi H=>∃xs x,fJ K H a xs/\xs[i]?=some x,λi H x H'=>H'=H/\∀xs,fJ K H a xs->xs[i]?=some x,λi H=>∃xs,fJ K H a xs/\xs.length<=i⟩
def JF(K:Frag)(a:Q9):It:=
 ⟨λi H=>∃xs x,jS K H a xs/\xs[i]?=some x,λi H x H'=>H'=H/\∀xs,jS K H a xs->xs[i]?=some x,λi H=>∃xs,jS K H a xs/\xs.length<=i⟩
def IH(lo:Int)(n:Nat):It:=⟨λi _=>i<n,λi H x H'=>H'=H/\x=.int (lo+i),λi _=>n<=i⟩
theorem zu{P:Va}{w:Vb}{K:Frag}{tg:Vd}(a it:Q9):u7 P w K tg (JH K a) [it] it (λi h=>h.IsListIter it a i) where
 mem:=by simp
 obj:=λi h st b hb=>by
  have e:b=it:=by simpa using hb
  subst e;obtain⟨o,e,c,d⟩:=st;exact⟨o,e,λv z=>by rw[d] at z;cases z⟩
 keep:=λi h h' st k=>st.at λo e=>k it (by simp) o e
 item:=by
  intro X hP hw hK hc i pins s σ H E I hf st hg;subst hP hw hK;obtain⟨xs,x,hq,hx⟩:=hg;obtain⟨its,rv,p,hz⟩:=I.list hq;obtain⟨u,hu,ru⟩:=rv.get hx;obtain⟨f0,f1,f2,f3,f4,f5⟩:=hf it (by simp)
  refine wpAny_pyNext_list_item st p.isList (x:=u) (by simpa using hu) λh' st' sb=>?_
  have I1:aD X pins σ H {s with heap:=h'}:=I.turned (t':=s.toks) (λb o hb e=>(sb.2 b hb).trans e) f0 f1 f3 f4 f5;obtain⟨o,e,c,d⟩:=id st';exact⟨u,rfl,yO (s:={s with heap:=h'}) e c d (by decide) ⟨x,H,I1,ru,⟨rfl,λys hy=>by rw[I.list_inj hy hq];exact hx⟩,st',λb hb=>(hf b hb).1⟩⟩
 done:=by
  intro X hP hw hK hc i pins s σ H E I hf st hg;subst hP hw hK;obtain⟨xs,hq,hx⟩:=hg;obtain⟨its,rv,p,hz⟩:=I.list hq;obtain⟨f0,f1,f2,f3,f4,f5⟩:=hf it (by simp)
  have hl:=rv.length;exact wpAny_pyNext_list_end (I.ok.hd hc) st p.isList (by simp;omega) λh' eb=>⟨rfl,I.turned (t':=s.toks) (λb o hb e=>eb b o hb e) f0 f1 f3 f4 f5⟩
 self:=λ_ _ _ _ _ st h=>wpAny_pyIter_listiter st h
theorem wC{P:Va}{w:Vb}{K:Frag}{tg:Vd}(a it:Q9):u7 P w K tg (JF K a) [it] it (λi h=>h.IsTupleIter it a i) where
 mem:=by simp
 obj:=λi h st b hb=>by
  have e:b=it:=by simpa using hb
  subst e;obtain⟨o,e,c,d⟩:=st;exact⟨o,e,λv z=>by rw[d] at z;cases z⟩
 keep:=λi h h' st k=>st.at λo e=>k it (by simp) o e
 item:=by
  intro X hP hw hK hc i pins s σ H E I hf st hg;subst hP hw hK;obtain⟨xs,x,hq,hx⟩:=hg;obtain⟨its,rv,p,hz⟩:=I.tuple hq;obtain⟨u,hu,ru⟩:=rv.get hx;obtain⟨f0,f1,f2,f3,f4,f5⟩:=hf it (by simp)
  refine wpAny_pyNext_tuple_item st (show s.heap.IsTuple a its.toArray from p) (x:=u) (by simpa using hu) λh' st' sb=>?_
  have I1:aD X pins σ H {s with heap:=h'}:=I.turned (t':=s.toks) (λb o hb e=>(sb.2 b hb).trans e) f0 f1 f3 f4 f5;obtain⟨o,e,c,d⟩:=id st';exact⟨u,rfl,yO (s:={s with heap:=h'}) e c d (by decide) ⟨x,H,I1,ru,⟨rfl,λys hy=>by rw[I.tuple_inj hy hq];exact hx⟩,st',λb hb=>(hf b hb).1⟩⟩
 done:=by
  intro X hP hw hK hc i pins s σ H E I hf st hg;subst hP hw hK;obtain⟨xs,hq,hx⟩:=hg;obtain⟨its,rv,p,hz⟩:=I.tuple hq;obtain⟨f0,f1,f2,f3,f4,f5⟩:=hf it (by simp)
  have hl:=rv.length;exact wpAny_pyNext_tuple_end (I.ok.hd hc) st (show s.heap.IsTuple a its.toArray from p) (by simp;omega) λh' eb=>⟨rfl,I.turned (t':=s.toks) (λb o hb e=>eb b o hb e) f0 f1 f3 f4 f5⟩
 self:=λ_ _ _ _ _ st h=>wpAny_pyIter_tupleiter st h
theorem wD{P:Va}{w:Vb}{K:Frag}{tg:Vd}(it:Q9)(lo:Int)(n:Nat):u7 P w K tg (IH lo n) [it] it (λi h=>IsRangeIter h it (lo+(i:Nat) * 1) ((n:Int) - (i:Nat)) 1) where
 mem:=by simp
 obj:=λi h st b hb=>by
  have e:b=it:=by simpa using hb
  subst e;exact⟨_,st,λv z=>by
   have z':Data.fields _=Data.cell v:=z;cases z'⟩
 keep:=λi h h' st k=>k it (by simp) _ st
 item:=by
  intro X hP hw hK hc i pins s σ H E I hf st hg;subst hP hw hK;obtain⟨f0,f1,f2,f3,f4,f5⟩:=hf it (by simp)
  have W:=Walks.range (prog:=X.prog) (w:=X.w) (I.ok.hd hc) it lo 1 n;refine W.item i s _ _ hg st λv h' tk hv st' kk=>?_;obtain⟨t,rfl⟩:=hv;have I1:aD X pins σ H {s with heap:=h',toks:=tk}:=I.turned (λb o hb e=>kk b o (by simpa using hb) e) f0 f1 f3 f4 f5
  refine⟨_,rfl,yO (s:={s with heap:=h',toks:=tk}) (n := "range_iterator") st' rfl rfl (by decide) ⟨.int (lo+i),H,I1,⟨t,?_⟩,⟨rfl,rfl⟩,st',λb hb=>(hf b hb).1⟩⟩
  rw[Int.mul_one]
 done:=by
  intro X hP hw hK hc i pins s σ H E I hf st hg;subst hP hw hK;obtain⟨f0,f1,f2,f3,f4,f5⟩:=hf it (by simp)
  exact wpAny_pyNext_range_end (I.ok.hd hc) st (by have:n<=i:=hg;omega) λh' eb=>⟨rfl,I.turned (t':=s.toks) (λb o hb e=>eb b o hb e) f0 f1 f3 f4 f5⟩
 self:=λ_ _ _ _ _ st h=>wpAny_pyIter_rangeiter st h
section
variable{X:Cx}{tg:Vd}
theorem Bj{pins:List (Q9×Obj)}{σ:St}{H:Hp}{s:Q8}{R:It->Hp->Prop}{E:Q7->Q8->Prop}{lo hi:Int}{t u v:Tok}{tk:Nat}(I:aD X pins σ H s)(h1:-(2 ^ 62)<=lo)(h2:lo<2 ^ 62)(h3:-(2 ^ 62)<=hi)(h4:hi<2 ^ 62)
  (q:R (IH lo (hi - lo).toNat) H):wpAny (model X.prog X.w) X.A (pyIter (.ref s.heap.objs.size)) (JT X pins σ tg R) E {s with heap:=s.heap.push {cls:=.type "range",data:=.fields #[.int lo t,.int hi u,.int 1 v]},toks:=tk}:=by
 refine wpAny_pyIter_range (IsRange.new ..) (small_one h1 h2 h3 h4) ?_;have I1:aD X pins σ H {s with heap:=s.heap.push {cls:=.type "range",data:=.fields #[.int lo t,.int hi u,.int 1 v]},toks:=tk}:=I.kept λb o e=>get?_push_of_some _ e;refine⟨(s.heap.push {cls:=.type "range",data:=.fields #[.int lo t,.int hi u,.int 1 v]}).objs.size,[(s.heap.push {cls:=.type "range",data:=.fields #[.int lo t,.int hi u,.int 1 v]}).objs.size],_,_,H,rfl,
  I1.kept (t':=tk) λb o e=>get?_push_of_some _ e,wD _ lo (hi - lo).toNat,?_,λb hb=>?_,q⟩
 ·have e1:lo+((0:Nat):Int) * 1=lo:=by simp
  have e2:(((hi - lo).toNat:Nat):Int) - ((0:Nat):Int)=Builtin.Range.rangeSize lo hi 1:=by rw[rangeSize_one];split <;> omega
  show IsRangeIter _ _ (lo+((0:Nat):Int) * 1) ((((hi - lo).toNat:Nat):Int) - ((0:Nat):Int)) 1;rw[e1,e2];exact get?_push_size _ rfl
 ·have e:b=(s.heap.push {cls:=.type "range",data:=.fields #[.int lo t,.int hi u,.int 1 v]}).objs.size:=by simpa using hb
  subst e;exact I1.fpOk (le_refl _) (I1.hok.fresh (le_refl _))
def I0(ta:TA):TI:=λσ H R=>ta σ H λvs H1=>∃j:Int,vs=[.int j]/\-(2 ^ 62)<=j/\j<2 ^ 62/\R (IH 0 j.toNat) H1
theorem zS{a:Vd}{ta:TA}{p pos:Pos}(hg:Gl X "range")(hm:X.mg "range" = none)(ha:PA X [a] ta)(hs:starEach [a] X.env=[(false,eval a X.env)]:=by rfl):PI X tg (.Call (.Name "range" p) [a] [] pos) (I0 ta):=by
 intro pins s σ H R I h;refine Call_ (jH I hg hm boot_range (PyProof.Rows.callWith_type1 (cA (ha pos pins s σ H _ I h) λus s1 ⟨vs,H1,I1,r1,q1⟩=>?_) hs rfl));obtain⟨j,e,q1,q2,q⟩:=q1;subst e;cases r1 with
 |cons r rr=>
  cases rr;obtain⟨t,rfl⟩:=r;exact call_range_1 (Bj I1 (by omega) (by omega) q1 q2 (by simpa using q))
def IW(wi:TI)(g:TG)(tb:TS):TS:=λD σ H=>wi σ H λJ H1=>∃W:Nat->Nat->St->Hp->Prop,(∃m,W 0 m σ H1)/\∀i m σ H,W i m σ H->
 (J.stop i H/\D.nx σ H)\/(J.go i H/\∃N:St->Hp->Prop,(∀σ' H',N σ' H'->∃m',m'<m/\W (i+1) m' σ' H')/\∀x H',J.yld i H x H'->g x σ H' λσ2 H2=>tb {D with nx:=N,ct:=N,bk:=D.nx} σ2 H2)
def oP(fp:List Q9)(h:Vc):List (Q9×Obj):=fp.filterMap λb=>(h.get? b).map λo=>(b,o)
theorem j7{fp:List Q9}{h:Vc}{b:Q9}{o:Obj}(hb:b∈fp)(e:h.get? b=some o):(b,o)∈oP fp h:=List.mem_filterMap.mpr ⟨b,hb,by rw[e];rfl⟩
theorem zX{fp:List Q9}{h:Vc}{p:Q9×Obj}(hp:p∈oP fp h):p.1∈fp/\h.get? p.1=some p.2:=by
 obtain⟨b,hb,e⟩:=List.mem_filterMap.mp hp;cases q:h.get? b with
 |none=>rw[q] at e;cases e
 |some o=>
  rw[q] at e;have e':(b,o)=p:=Option.some.inj e;subst e';exact⟨hb,q⟩
theorem aD.pinned{pins:List (Q9×Obj)}{σ:St}{H:Hp}{s:Q8}{fp:List Q9}(I:aD X pins σ H s)(hf:∀b∈fp,FpOk X pins H b)(ho:∀b∈fp,∃o,s.heap.get? b=some o/\∀v,o.data≠.cell v):aD X (pins++oP fp s.heap) σ H s:=
 I.pins_of λp hp=>(mem_append.mp hp).elim (λz=>I.pin p (mem_append_right _ z)) λz=>by
  obtain⟨hb,e⟩:=zX z;obtain⟨f0,f1,f2,_⟩:=hf p.1 hb;obtain⟨o,e',d⟩:=ho p.1 hb;rw[e] at e';cases e';exact⟨e,f0,f1,f2,d⟩
theorem aD.unpinned{pins pl:List (Q9×Obj)}{σ:St}{H:Hp}{s:Q8}(I:aD X (pins++pl) σ H s):aD X pins σ H s:=I.pins_of λp hp=>I.pin p (mem_append_right _ (List.mem_append_left _ hp))
theorem wX{iter:Vd}{body:List Ve}{wi:TI}{g:TG}{tb:TS}{pos:Pos}(hp:PassesOwn (model X.prog X.w) X.A X.env X.xe)(hc:X.calm=true)(hi:PI X tg iter wi)(hg:PG X tg g)(hb:nv X body tb)
  (hs:∀x,foldedSetIterable iter X.env x=pure x:=by intro _;rfl):PS X (.For tg iter body [] pos) (IW wi g tb):=by
 intro pins s σ H D I h;refine wpAny_For (cA (hi pins s σ H _ I h) λv s1 h1=>cA h1 λitv s2 h2=>?_) hs;obtain⟨it,fp,tn,J,H2,e,I2,T,st2,f2,W,⟨m0,w0⟩,turn⟩:=h2;subst e;have stat:∀{H':Hp},(∀b∈fp,H' b=none)->∀b∈fp,FpOk X pins H' b:=λhn b hb=>⟨hn b hb,(f2 b hb).2⟩;refine codeAny_forLoop_any (λn s'=>∃i σ' H',aD X pins σ' H' s'/\tn i s'.heap/\(∀b∈fp,H' b=none)/\W i n σ' H') ?_ m0 ⟨0,σ,H2,I2,st2,λb hb=>(f2 b hb).1,w0⟩
 rintro n s3 ⟨i,σ3,H3,I3,st3,fr3,w3⟩
 rcases turn i n σ3 H3 w3 with⟨stop,qn⟩|⟨go,N,hN,step⟩
 ·refine wpAny_passesOwn hp (cA (T.done X rfl rfl rfl hc i pins s3 σ3 H3 X.xe I3 (stat fr3) st3 stop) λr s4 ⟨hr,I4⟩=>?_);subst hr;exact wpAny_execs_nil ⟨σ3,H3,I4,qn⟩
 ·refine wpAny_passesOwn hp (cA (T.item X rfl rfl rfl hc i pins s3 σ3 H3 X.xe I3 (stat fr3) st3 go) λr s4 ⟨u,hr,h4⟩=>?_);subst hr;refine wpAny_passesOwn hp (cA h4 λ_ s5 ⟨x,H5,I5,r5,y5,st5,fr5⟩=>?_);have I5':=I5.pinned (stat fr5) (T.obj _ _ st5);refine wpAny_passesOwn hp (cA (hg _ s5 σ3 H5 x u _ I5' r5 (step x H5 y5)) λ_ s6 ⟨σ6,H6,I6,q6⟩=>?_);refine wpAny_passesOwn hp (cA (hb _ s6 σ6 H6 _ I6 q6) λf s7 q7=>?_);have again:∀{σ7:St}{H7:Hp},aD X (pins++oP fp s5.heap) σ7 H7 s7->N σ7 H7->∃m,m<n/\∃i σ' H',aD X pins σ' H' s7/\tn i s7.heap/\(∀b∈fp,H' b=none)/\W i m σ' H':=λ{σ7 H7} I7 n7=>by
   obtain⟨m',hm,w7⟩:=hN σ7 H7 n7;refine⟨m',hm,i+1,σ7,H7,I7.unpinned,T.keep _ _ _ st5 λb hb o e=>(I7.pin (b,o) (mem_append_right _ (mem_append_right _ (j7 hb e)))).1,λb hb=>?_,w7⟩;obtain⟨o,e,d⟩:=T.obj _ _ st5 b hb;exact(I7.pin (b,o) (mem_append_right _ (mem_append_right _ (j7 hb e)))).2.1
  cases f with
  |brk=>obtain⟨σ7,H7,I7,q7⟩:=q7;exact⟨σ7,H7,I7.unpinned,q7⟩
  |ret v=>obtain⟨x7,σ7,H7,I7,r7,q7⟩:=q7;exact⟨x7,σ7,H7,I7.unpinned,r7,q7⟩
  |_=>obtain⟨σ7,H7,I7,n7⟩:=q7;exact again I7 n7
end
abbrev R2:=V->V->Hp->VK->Prop
def gd(X:Cx)(f:Q7->Q7->Sem Q7)(r:R2):Prop:=
 ∀(pins:List (Q9×Obj))(s:Q8)(σ:St)(H:Hp)(x y:V)(v u:Q7)(Q:VK),aD X pins σ H s->RelV x v->RelV y u->r x y H Q->
  wpAny (model X.prog X.w) X.A (f v u) (EP X pins σ Q) X.xe s
def JB(X:Cx)(f:Q7->Sem Q7)(r:V->Hp->VK->Prop):Prop:=
 ∀(pins:List (Q9×Obj))(s:Q8)(σ:St)(H:Hp)(x:V)(v:Q7)(Q:VK),aD X pins σ H s->RelV x v->r x H Q->
  wpAny (model X.prog X.w) X.A (f v) (EP X pins σ Q) X.xe s
def cJ(X:Cx)(f:Q7)(r:List V->Hp->VK->Prop):Prop:=
 ∀(pins:List (Q9×Obj))(s:Q8)(σ:St)(H:Hp)(xs:List V)(us:List Q7)(Q:VK),aD X pins σ H s->Vals xs us->r xs H Q->
  wpAny (model X.prog X.w) X.A (call f us) (EP X pins σ Q) X.xe s
def Hb(r:R2)(ta tb:TE):TE:=λσ H Q=>ta σ H λx H1=>tb σ H1 λy H2=>r x y H2 Q
def JY(r:V->Hp->VK->Prop)(ta:TE):TE:=λσ H Q=>ta σ H λx H1=>r x H1 Q
def rI(C:Int->Int->Prop)(g:Int->Int->V):R2:=λx y H Q=>∃i j,x=.int i/\y=.int j/\C i j/\Q (g i j) H
def EK(g:Int->Int->V):R2:=λx y H Q=>∃i j,x=.int i/\y=.int j/\Q (g i j) H
def rU(g:Int->V):V->Hp->VK->Prop:=λx H Q=>∃i,x=.int i/\Q (g i) H
section
variable{X:Cx}{a b c:Vd}{ta tb tc:TE}{pos:Pos}
theorem GC(ha:PE X a ta)(hb:PE X b tb){pins:List (Q9×Obj)}{s:Q8}{σ:St}{H:Hp}{R:V->V->Hp->Prop}(I:aD X pins σ H s)
  (h:ta σ H λx H1=>tb σ H1 λy H2=>R x y H2) {Q:Q7->Q8->Prop} {f:Q7->Q7->Sem Q7}
  (hf:∀v u s2 x y H2,aD X pins σ H2 s2->RelV x v->RelV y u->R x y H2->wpAny (model X.prog X.w) X.A (f v u) Q X.xe s2):
  wpAny (model X.prog X.w) X.A (eval a X.env) (λv s₁=>wpAny (model X.prog X.w) X.A (eval b X.env) (λu s₂=>wpAny (model X.prog X.w) X.A (f v u) Q X.xe s₂) X.xe s₁) X.xe s:=by
 refine cA (ha pins s σ H _ I h) λv s1 ⟨x,H1,I1,r1,q1⟩=>?_;refine cA (hb pins s1 σ H1 _ I1 q1) λu s2 ⟨y,H2,I2,r2,q2⟩=>?_;exact hf v u s2 x y H2 I2 r1 r2 q2
theorem Hw{op:Operator}{r:R2}(ho:gd X (binaryOp op) r)(ha:PE X a ta)(hb:PE X b tb):PE X (.BinOp a op b pos) (Hb r ta tb):=by
 intro pins s σ H Q I h;exact wpAny_BinOp (GC ha hb I h λv u s2 x y H2 I2 rx ry q=>ho pins s2 σ H2 x y v u Q I2 rx ry q)
theorem EM{op:UnaryOp}{r:V->Hp->VK->Prop}(ho:JB X (unaryOp op) r)(ha:PE X a ta):PE X (.UnaryOp op a pos) (JY r ta):=by
 intro pins s σ H Q I h;exact UnaryOp_ (cA (ha pins s σ H _ I h) λv s1 ⟨x,H1,I1,r1,q1⟩=>ho pins s1 σ H1 x v Q I1 r1 q1)
theorem Jj{f:Q7->Q7->Sem Q7}{C:Int->Int->Prop}{g:Int->Int->Int}
  (rule:∀(i j:Int)(t u:Tok)(s:Q8)(Q:Q7->Q8->Prop)(E:Q7->Q8->Prop),C i j->Q (.int (g i j) s.toks) {s with toks:=s.toks+1}->wpAny (model X.prog X.w) X.A (f (.int i t) (.int j u)) Q E s):
  gd X f (rI C λi j=>.int (g i j)):=by
 intro pins s σ H x y v u Q I rx ry h;obtain⟨i,j,rfl,rfl,hc,q⟩:=h;obtain⟨t,rfl⟩:=rx;obtain⟨t',rfl⟩:=ry;exact rule i j t t' s _ _ hc ⟨.int (g i j),H,I.tok _,⟨_,rfl⟩,q⟩
theorem FR{f:Q7->Q7->Sem Q7}{g:Int->Int->Int}
  (rule:∀(i j:Int)(t u:Tok)(s:Q8)(Q:Q7->Q8->Prop)(E:Q7->Q8->Prop),Q (.int (g i j) s.toks) {s with toks:=s.toks+1}->wpAny (model X.prog X.w) X.A (f (.int i t) (.int j u)) Q E s):
  gd X f (EK λi j=>.int (g i j)):=by
 intro pins s σ H x y v u Q I rx ry h;obtain⟨i,j,rfl,rfl,q⟩:=h;obtain⟨t,rfl⟩:=rx;obtain⟨t',rfl⟩:=ry;exact rule i j t t' s _ _ ⟨.int (g i j),H,I.tok _,⟨_,rfl⟩,q⟩
theorem FS{f:Q7->Q7->Sem Q7}{g:Int->Int->Bool}
  (rule:∀(i j:Int)(t u:Tok)(s:Q8)(Q:Q7->Q8->Prop)(E:Q7->Q8->Prop),Q (.bool (g i j)) s->wpAny (model X.prog X.w) X.A (f (.int i t) (.int j u)) Q E s):
  gd X f (EK λi j=>.bl (g i j)):=by
 intro pins s σ H x y v u Q I rx ry h;obtain⟨i,j,rfl,rfl,q⟩:=h;obtain⟨t,rfl⟩:=rx;obtain⟨t',rfl⟩:=ry;exact rule i j t t' s _ _ ⟨.bl (g i j),H,I,rfl,q⟩
def JK(i j:Int):Prop:=0<=j/\j<=1000000/\i.natAbs<2 ^ 64
def GO(i j:Int):Prop:=(-(2 ^ 64)<i/\i<2 ^ 64)\/(-(2 ^ 64)<j/\j<2 ^ 64)
theorem GO.ok{i j:Int}(h:GO i j):IntMulOk i j:=by
 rcases h with⟨h1,h2⟩|⟨h1,h2⟩
 ·exact .of_left (intBits_le_64 h1 h2)
 ·exact .of_right (intBits_le_64 h1 h2)
theorem FQ:gd X (binaryOp .Add) (EK λi j=>.int (i+j)):=FR λ_ _ _ _ _ _ _ q=>add_int q
theorem FL:gd X (binaryOp .Sub) (EK λi j=>.int (i - j)):=FR λ_ _ _ _ _ _ _ q=>sub_int q
theorem FN:gd X (binaryOp .Mult) (rI GO λi j=>.int (i * j)):=Jj λ_ _ _ _ _ _ _ hc q=>mul_int q hc.ok
theorem FO:gd X (binaryOp .Mod) (rI (λ_ j=>0<j) λi j=>.int (i % j)):=Jj λi j _ _ _ _ _ hc q=>by
 have h1:(0:Int)<j:=hc;exact mod_int' (by omega) (by rw[Int.fmod_eq_emod_of_nonneg i (by omega)];exact q)
theorem FM:gd X (binaryOp .LShift) (rI JK λi j=>.int (i * 2 ^ j.toNat)):=Jj λ_ _ _ _ _ _ _ hc q=>lshift_int_small hc.1 hc.2.1 hc.2.2 q
theorem HD:gd X (binaryOp .BitOr) (EK λi j=>.int (Builtin.bitOr i j)):=FR λ_ _ _ _ _ _ _ q=>or_int q
theorem JW{f:Q7->Sem Q7}{g:Int->Int}
  (rule:∀(i:Int)(t:Tok)(s:Q8)(Q:Q7->Q8->Prop)(E:Q7->Q8->Prop),Q (.int (g i) s.toks) {s with toks:=s.toks+1}->wpAny (model X.prog X.w) X.A (f (.int i t)) Q E s):
  JB X f (rU λi=>.int (g i)):=by
 intro pins s σ H x v Q I rx h;obtain⟨i,rfl,q⟩:=h;obtain⟨t,rfl⟩:=rx;exact rule i t s _ _ ⟨.int (g i),H,I.tok _,⟨_,rfl⟩,q⟩
theorem AU:JB X (unaryOp .USub) (rU λi=>.int (-i)):=JW λ_ _ _ _ _ q=>neg_int q
end
def scal:V->V->Bool
 |.non,.non=>true|.non,.int _=>true|.int _,.non=>true|.non,.bl _=>true|.bl _,.non=>true|.non,.str _=>true|.str _,.non=>true
 |.int _,.int _=>true|.bl _,.bl _=>true|.str _,.str _=>true|.byt _,.byt _=>true
 |.int _,.str _=>true|.str _,.int _=>true|.bl _,.str _=>true|.str _,.bl _=>true
 |_,_=>false
def K9:R2:=λx y H Q=>scal x y=true/\Q (.bl (decide (x=y))) H
def K8:R2:=λx y H Q=>scal x y=true/\Q (.bl (!decide (x=y))) H
theorem yV{i j:Int}:decide (V.int i=V.int j)=(i == j):=by
 rw[Bool.eq_iff_iff];simp
theorem Cy{i j:Bool}:decide (V.bl i=V.bl j)=(i == j):=by
 rw[Bool.eq_iff_iff];simp
theorem yU{i j:Str}:decide (V.str i=V.str j)=(i == j):=by
 rw[Bool.eq_iff_iff];simp
theorem yW{i j:Array UInt8}:decide (V.byt i=V.byt j)=(i.toList == j.toList):=by
 rw[Bool.eq_iff_iff];cases i;cases j;simp
section
variable{X:Cx}{a b c:Vd}{ta tb tc:TE}{pos:Pos}
theorem bg{pins:List (Q9×Obj)}{σ:St}{H:Hp}{s:Q8}{Q:VK}{k k':Bool}(I:aD X pins σ H s)(q:Q (.bl k) H)(e:k=k'):EP X pins σ Q (.bool k') s:=by
 subst e;exact⟨.bl k,H,I,rfl,q⟩
theorem HI:gd X (compareOp .Eq) K9:=by
 intro pins s σ H x y v u Q I rx ry h;obtain⟨hs,q⟩:=h;cases x with
 |non=>
  cases rx;cases y with
  |non=>cases ry;exact PySem.EqNone.eq_none_none (bg I q (by simp))
  |bl j=>cases ry;exact PySem.EqNone.eq_none_bool (bg I q (by simp))
  |int j=>obtain⟨t',rfl⟩:=ry;exact PySem.EqNone.eq_none_int (bg I q (by simp))
  |str j=>obtain⟨t',rfl⟩:=ry;exact PySem.EqNone.eq_none_str (bg I q (by simp))
  |_=>exact absurd (show false=true from hs) Bool.false_ne_true
 |bl i=>
  cases rx;cases y with
  |non=>cases ry;exact PySem.EqNone.eq_bool_none (bg I q (by simp))
  |bl j=>cases ry;exact eq_bool (bg I q Cy)
  |str j=>obtain⟨t',rfl⟩:=ry;exact PySem.EqMixed.eq_bool_str (bg I q (by simp))
  |_=>exact absurd (show false=true from hs) Bool.false_ne_true
 |int i=>
  obtain⟨t,rfl⟩:=rx;cases y with
  |non=>cases ry;exact PySem.EqNone.eq_int_none (bg I q (by simp))
  |int j=>obtain⟨t',rfl⟩:=ry;exact eq_int (bg I q yV)
  |str j=>obtain⟨t',rfl⟩:=ry;exact PySem.EqMixed.eq_int_str (bg I q (by simp))
  |_=>exact absurd (show false=true from hs) Bool.false_ne_true
 |str i=>
  obtain⟨t,rfl⟩:=rx;cases y with
  |non=>cases ry;exact PySem.EqNone.eq_str_none (bg I q (by simp))
  |bl j=>cases ry;exact PySem.EqMixed.eq_str_bool (bg I q (by simp))
  |int j=>obtain⟨t',rfl⟩:=ry;exact PySem.EqMixed.eq_str_int (bg I q (by simp))
  |str j=>obtain⟨t',rfl⟩:=ry;exact eq_str (bg I q yU)
  |_=>exact absurd (show false=true from hs) Bool.false_ne_true
 |byt i=>
  obtain⟨t,rfl⟩:=rx;cases y with
  |byt j=>obtain⟨t',rfl⟩:=ry;exact PySem.W.eq_bytes (bg I q yW)
  |_=>exact absurd (show false=true from hs) Bool.false_ne_true
 |_=>cases y <;> exact absurd (show false=true from hs) Bool.false_ne_true
theorem HE:gd X (compareOp .NotEq) K8:=by
 intro pins s σ H x y v u Q I rx ry h;obtain⟨hs,q⟩:=h;cases x with
 |non=>
  cases rx;cases y with
  |non=>cases ry;exact PySem.EqNone.ne_none_none (bg I q (by simp))
  |bl j=>cases ry;exact PySem.EqNone.ne_none_bool (bg I q (by simp))
  |int j=>obtain⟨t',rfl⟩:=ry;exact PySem.EqNone.ne_none_int (bg I q (by simp))
  |str j=>obtain⟨t',rfl⟩:=ry;exact PySem.EqNone.ne_none_str (bg I q (by simp))
  |_=>exact absurd (show false=true from hs) Bool.false_ne_true
 |bl i=>
  cases rx;cases y with
  |non=>cases ry;exact PySem.EqNone.ne_bool_none (bg I q (by simp))
  |bl j=>cases ry;exact ne_bool (bg I q (congrArg not Cy))
  |str j=>obtain⟨t',rfl⟩:=ry;exact PySem.EqMixed.ne_bool_str (bg I q (by simp))
  |_=>exact absurd (show false=true from hs) Bool.false_ne_true
 |int i=>
  obtain⟨t,rfl⟩:=rx;cases y with
  |non=>cases ry;exact PySem.EqNone.ne_int_none (bg I q (by simp))
  |int j=>obtain⟨t',rfl⟩:=ry;exact ne_int (bg I q (congrArg not yV))
  |str j=>obtain⟨t',rfl⟩:=ry;exact PySem.EqMixed.ne_int_str (bg I q (by simp))
  |_=>exact absurd (show false=true from hs) Bool.false_ne_true
 |str i=>
  obtain⟨t,rfl⟩:=rx;cases y with
  |non=>cases ry;exact PySem.EqNone.ne_str_none (bg I q (by simp))
  |bl j=>cases ry;exact PySem.EqMixed.ne_str_bool (bg I q (by simp))
  |int j=>obtain⟨t',rfl⟩:=ry;exact PySem.EqMixed.ne_str_int (bg I q (by simp))
  |str j=>obtain⟨t',rfl⟩:=ry;exact ne_str (bg I q (congrArg not yU))
  |_=>exact absurd (show false=true from hs) Bool.false_ne_true
 |byt i=>
  obtain⟨t,rfl⟩:=rx;cases y with
  |byt j=>obtain⟨t',rfl⟩:=ry;exact PySem.W.ne_bytes (bg I q (congrArg not yW))
  |_=>exact absurd (show false=true from hs) Bool.false_ne_true
 |_=>cases y <;> exact absurd (show false=true from hs) Bool.false_ne_true
theorem HF:gd X (compareOp .Lt) (EK λi j=>.bl (decide (i<j))):=FS λ_ _ _ _ _ _ _ q=>lt_int q
theorem HG:gd X (compareOp .LtE) (EK λi j=>.bl (decide (i<=j))):=FS λ_ _ _ _ _ _ _ q=>le_int q
theorem HH:gd X (compareOp .Gt) (EK λi j=>.bl (decide (j<i))):=FS λ_ _ _ _ _ _ _ q=>gt_int q
theorem BO(b:Vd){op:CmpOp}(h:op≠.In:=by decide)(h2:op≠.NotIn:=by decide):behindInMarks op b=false:=by
 have e1:(op == CmpOp.In)=false:=by cases op <;> first|rfl|exact absurd rfl h
 have e2:(op == CmpOp.NotIn)=false:=by cases op <;> first|rfl|exact absurd rfl h2
 cases b <;> simp[behindInMarks,e1,e2]
theorem DA{op:CmpOp}{r:R2}(ho:gd X (compareOp op) r)(ha:PE X a ta)(hb:PE X b tb)(hm:behindInMarks op b=false):PE X (.Compare a [op] [b] pos) (Hb r ta tb):=by
 intro pins s σ H Q I h;exact wpAny_Compare1 (GC ha hb I h λv u s2 x y H2 I2 rx ry q=>ho pins s2 σ H2 x y v u Q I2 rx ry q) hm
def EG(t:TE):TT:=λσ H Q=>t σ H λx H'=>∃k,x=.bl k/\Q k H'
theorem Dm{op:CmpOp}{r:R2}(ho:gd X (compareOp op) r)(ha:PE X a ta)(hb:PE X b tb)(hm:behindInMarks op b=false):PT X (.Compare a [op] [b] pos) (EG (Hb r ta tb)):=by
 intro pins s σ H Q I h;refine wpAny_isTrue_Compare1 (cA (ha pins s σ H _ I h) λv s1 ⟨x,H1,I1,r1,q1⟩=>cA (hb pins s1 σ H1 _ I1 q1) λu s2 ⟨y,H2,I2,r2,q2⟩=>
  cA (ho pins s2 σ H2 x y v u _ I2 r1 r2 q2) λc s3 ⟨z,H3,I3,r3,k,e,q3⟩=>?_) hm
 subst e;cases r3;exact wpAny_truthy_bool ⟨H3,I3,q3⟩
def wH(r r':R2)(ta tb tc:TE):TE:=λσ H Q=>ta σ H λx H1=>tb σ H1 λy H2=>r x y H2 λz H3=>∃k,z=.bl k/\
 (if k=true then tc σ H3 λw' H4=>r' y w' H4 Q else Q (.bl false) H3)
theorem BC{op op':CmpOp}{r r':R2}(ho:gd X (compareOp op) r)(ho':gd X (compareOp op') r')(ha:PE X a ta)(hb:PE X b tb)(hc:PE X c tc)
  (hm:lastMarks [op,op'] [b,c]=false:=by with_unfolding_all rfl):PE X (.Compare a [op,op'] [b,c] pos) (wH r r' ta tb tc):=by
 intro pins s σ H Q I h;refine Compare_chain (cA (ha pins s σ H _ I h) λv s1 ⟨x,H1,I1,r1,q1⟩=>chain_link (cA (hb pins s1 σ H1 _ I1 q1) λu s2 ⟨y,H2,I2,r2,q2⟩=>
  cA (ho pins s2 σ H2 x y v u _ I2 r1 r2 q2) λd s3 ⟨z,H3,I3,r3,k,e,q3⟩=>?_)) hm
 subst e;cases r3;refine wpAny_truthy_bool ?_;cases k with
 |false=>exact ite_ff ⟨.bl false,H3,I3,rfl,q3⟩
 |true=>exact ite_tt (chain_last (cA (hc pins s3 σ H3 _ I3 q3) λw' s4 ⟨z',H4,I4,r4,q4⟩=>ho' pins s4 σ H4 y z' u w' Q I4 r2 r4 q4))
theorem Bn{op op':CmpOp}{r r':R2}(ho:gd X (compareOp op) r)(ho':gd X (compareOp op') r')(ha:PE X a ta)(hb:PE X b tb)(hc:PE X c tc)
  (hm:lastMarks [op,op'] [b,c]=false:=by with_unfolding_all rfl):PT X (.Compare a [op,op'] [b,c] pos) (EG (wH r r' ta tb tc)):=by
 intro pins s σ H Q I h;refine isTrue_chain (cA (ha pins s σ H _ I h) λv s1 ⟨x,H1,I1,r1,q1⟩=>test_link (cA (hb pins s1 σ H1 _ I1 q1) λu s2 ⟨y,H2,I2,r2,q2⟩=>
  cA (ho pins s2 σ H2 x y v u _ I2 r1 r2 q2) λd s3 ⟨z,H3,I3,r3,k,e,q3⟩=>?_)) hm
 subst e;cases r3;refine wpAny_truthy_bool ?_;cases k with
 |false=>
  obtain⟨k',e',q'⟩:=q3;cases e';exact ite_ff ⟨H3,I3,q'⟩
 |true=>
  refine ite_tt (test_last (cA (hc pins s3 σ H3 _ I3 q3) λw' s4 ⟨z',H4,I4,r4,q4⟩=>cA (ho' pins s4 σ H4 y z' u w' _ I4 r2 r4 q4) λd' s5 ⟨z2,H5,I5,r5,k2,e2,q5⟩=>?_));subst e2;cases r5;exact wpAny_truthy_bool ⟨H5,I5,q5⟩
theorem mY:(sizeLine:Nat)<2 ^ 63:=by rw[sizeLine_eq];decide
theorem x8:gd X (binaryOp .Add) (λx y H Q=>∃i j,x=.str i/\y=.str j/\i.length+j.length<=sizeLine/\Q (.str (i++j)) H):=by
 intro pins s σ H x y v u Q I rx ry h;obtain⟨i,j,rfl,rfl,hz,q⟩:=h;obtain⟨t,rfl⟩:=rx;obtain⟨t',rfl⟩:=ry;exact add_str (λt' tk=>⟨.str (i++j),H,I.tok _,⟨_,rfl⟩,q⟩) hz
theorem fK{x:V}{us:List Q7}(r:Vals [x] us):∃u,us=[u]/\RelV x u:=by
 cases r with
 |cons r1 r2=>cases r2;exact⟨_,rfl,r1⟩
theorem AS{x y:V}{us:List Q7}(r:Vals [x,y] us):∃u w',us=[u,w']/\RelV x u/\RelV y w':=by
 cases r with
 |cons r1 r2=>
  cases r2 with
  |cons r3 r4=>cases r4;exact⟨_,_,rfl,r1,r3⟩
theorem rA:cJ X (.type "int") (λxs H Q=>(∃i,xs=[.int i]/\Q (.int i) H)\/∃k,xs=[.bl k]/\Q (.int (if k then 1 else 0)) H):=by
 intro pins s σ H xs us Q I r h;rcases h with⟨i,rfl,q⟩|⟨k,rfl,q⟩
 ·obtain⟨u,rfl,t,rfl⟩:=fK r;exact call_int_int ⟨.int i,H,I,⟨_,rfl⟩,q⟩
 ·obtain⟨u,rfl,r1⟩:=fK r;cases r1;exact call_int_bool ⟨.int (if k then 1 else 0),H,I.tok _,⟨_,rfl⟩,q⟩
theorem tU:cJ X (.type "str") (λxs H Q=>∃i,xs=[.int i]/\i.natAbs.log2<1920/\Q (.str (toString i)) H):=by
 intro pins s σ H xs us Q I r h;obtain⟨i,rfl,hz,q⟩:=h;obtain⟨u,rfl,t,rfl⟩:=fK r;exact PySem.P.str_of_int hz ⟨.str _,H,I.tok _,⟨_,rfl⟩,q⟩
end
structure yc(h:Vc)(x dx C:Q9)(mA:Str->Option Q7):Prop where
 obj:h.get? x=some (instObj C dx)
 ns:h.Ns1 dx mA
 ne:dx≠x
theorem A3{h:Vc}{dx:Q9}{mA:Str->Option Q7}(n:h.Ns1 dx mA):∃od,h.get? dx=some od/\∀name,lookIn name od=some (mA name):=by
 obtain⟨o,es,ep,ho,hd,hk,_,hm⟩:=n;refine⟨o,ho,λname=>?_⟩;have e:=hm name;unfold nsFind findBy at e;rw[<-Array.find?_toList] at e;unfold lookIn;rw[hd];dsimp only;split
 ·rename_i y q;rw[q] at e;exact congrArg some e
 ·rename_i q;rw[q] at e;have a:es.toList.any (·.refKey)=false:=by
   rw[List.any_eq_false];intro y hy;obtain⟨z,t,hkey⟩:=hk y (Array.mem_toList_iff.mp hy);simp[DictEntry.refKey,hkey]
  have a':¬es.toList.any (·.refKey)=true:=by rw[a];exact Bool.false_ne_true
  rw[if_neg a'];exact congrArg some e
theorem yc.look{h:Vc}{x dx C:Q9}{mA:Str->Option Q7}(I:yc h x dx C mA):∃od,PySem.W.InstAt h x (instObj C dx) C (some od)/\∀name,lookIn name od=some (mA name):=
 let ⟨od,ho,hl⟩:=A3 I.ns
 ⟨od,⟨I.obj,rfl,rfl,ho⟩,hl⟩
section
variable{prog:Va}{w:Vb}{A:Vf}{E:Q7->Q8->Prop}{s:Q8}{K:Frag}{x dx C f:Q9}{mA:Str->Option Q7}{name:Str}{v:Q7}
theorem E3{expr:Bool}{Q:Q7->Q8->Prop}(X:K.In s.heap)(I:yc s.heap x dx C mA)(hg:plainGet K C name=true)(hh:hasDictIn K C=true)
  (ha:findIn K (.ref C) name=some none) (hv:mA name=some v) (hv':handedIn v=true) (h:Q v {s with toks:=s.toks+1}):
  wpAny (model prog w) A (getAttr (.ref x) name expr) Q E s:=by
 obtain⟨od,J,hl⟩:=I.look;exact PySem.W.get_value X J (plainGet_of hg).1 (PySem.W.findObj_own hh ha rfl (by rw[hl,hv])) hv' h
theorem Cg{pl:Sem Bool}{Q:Q7×List Q7->Q8->Prop}(X:K.In s.heap)(I:yc s.heap x dx C mA)(hg:plainGet K C name=true)
  (hf:findIn K (.ref C) name=some (some (.ref f))) (ht:isFn K (.ref f)=true) (hv:mA name=none) (h:Q (.ref f,[.ref x]) s):
  wpAny (model prog w) A (getMethod (.ref x) name pl) Q E s:=by
 obtain⟨od,J,hl⟩:=I.look;exact PySem.W.method_fn X J (plainGet_of hg).1 (plainGet_of hg).2 hf (beq_iff_eq.mp ht) (by show(lookIn name od).map (·.isSome)=some false;rw[hl,hv];rfl) h
theorem D9{ns:List Str}{Q:Unit->Q8->Prop}(X:K.In s.heap)(I:yc s.heap x dx C mA)
  (hs:findIn K (.ref C) "__setattr__" = some (some (.builtin "object.__setattr__"))) (hp:plainOver K C=true) (ht:takerIn K C name=some none) (hh:hasDictIn K C=true)
  (hw:PySem.Within mA ns) (hsz:ns.length<=sizeLine)
  (h:∀h',yc h' x dx C (λy=>if y=name then some v else mA y)->Heap.SameBut dx s.heap h'->Q () {s with heap:=h',toks:=s.toks+2}):
  wpAny (model prog w) A (setAttr (.ref x) name v) Q E s:=by
 obtain⟨od,J,hl⟩:=I.look;refine PySem.W.set_plain X J hs (PySem.W.osa_open (s:={s with toks:=s.toks+1}) (r:=none) X J hp ht λb=>?_);obtain⟨cd,hc,hd'⟩:=PySem.W.any_some hh;have hx:s.heap.get? x=some ⟨.ref C,some dx,.plain,#[]⟩:=I.obj;refine wpAny_bind (wpAny_pure (wpAny_bind (wpAny_bind (wpAny_loadPart hx (wpAny_bind (PySem.W.Looks.here (s:={s with toks:=s.toks+1}) (PySem.W.looks_clsIn X hc) ?_))))));rw[hd'];refine wpAny_pure (a:=some dx) (wpAny_bind (wpAny_pure (wpAny_bind ?_)));refine wpAny_nsSet1 (s:={s with toks:=s.toks+1}) I.ns λh' hn2 hs2=>?_;obtain⟨oD,esD,epD,hoD,hdD,hcD⟩:=hn2.count (PySem.Within.cons name v hw);refine wpAny_bind (wpAny_lookBehind hoD (by rw[hdD];exact pastItsLine_dict (le_trans hcD (by rw[length_cons];omega))) ?_)
 exact wpAny_pure (h _ ⟨(hs2.2 _ (Ne.symm I.ne)).trans I.obj,hn2,I.ne⟩ hs2)
theorem BX{R:Result->Q8->Prop}{vs:List Q7}{kw:List (Str×Q7)}(X:K.In s.heap)(hm:makesIn K C=true)
  (hi:findIn K (.ref C) "__init__" = some (some (.ref f))) (hf:PySem.W.typeIn K (.ref f)=some (.type "function"))
  (h:codeAny (model prog w) (A.under (.builtin "type.__call__" ⟨.ref C::vs,kw⟩)) (.call (.ref f) ⟨.ref (s.heap.objs.size+1)::vs,kw⟩) (PySem.W.InitBack (s.heap.objs.size+1) R)
   {s with heap:=(s.heap.push emptyDict).push (instObj C s.heap.objs.size)}):
  codeAny (model prog w) A (.call (.ref C) ⟨vs,kw⟩) R s:=by
 obtain⟨hh,g,d,t,os⟩:=s;exact PySem.W.make_core (PySem.W.makes_of X hm) (PySem.W.looks_findIn X hi) (λself=>PySem.W.bind_fn X self hf) (.inl rfl) h
end
def iu(f:Str)(v:V):List (Str×V)->List (Str×V)
 |[]=>[(f,v)]
 | (g,x)::r=>if g=f then(g,v)::r else(g,x)::iu f v r
theorem nF(f g:Str)(v:V):∀fs:List (Str×V),(iu f v fs).lookup g=if g=f then some v else fs.lookup g
 |[]=>by
  show List.lookup g [(f,v)]=_;by_cases h:g=f
  ·have hb:(g == f)=true:=beq_iff_eq.mpr h;simp only[List.lookup,hb,if_pos h]
  ·have hb:(g == f)=false:=beq_eq_false_iff_ne.mpr h;simp only[List.lookup,hb,if_neg h]
 | (k,x)::r=>by
  have ih:=nF f g v r;rw[show iu f v ((k,x)::r)=(if k=f then(k,v)::r else(k,x)::iu f v r) from rfl];by_cases hk:k=f
  ·rw[if_pos hk];by_cases h:g=k
   ·have hb:(g == k)=true:=beq_iff_eq.mpr h;simp only[List.lookup,hb,if_pos (h.trans hk)]
   ·have hb:(g == k)=false:=beq_eq_false_iff_ne.mpr h;simp only[List.lookup,hb,if_neg (λe:g=f=>h (e.trans hk.symm))]
  ·rw[if_neg hk];by_cases h:g=k
   ·have hb:(g == k)=true:=beq_iff_eq.mpr h;simp only[List.lookup,hb,if_neg (λe:g=f=>hk (h.symm.trans e))]
   ·have hb:(g == k)=false:=beq_eq_false_iff_ne.mpr h;simp only[List.lookup,hb];exact ih
theorem n8(f:Str)(v:V):∀fs:List (Str×V),f∈(iu f v fs).map (·.1)/\∀g,g∈fs.map (·.1)->g∈(iu f v fs).map (·.1)
 |[]=>⟨by simp[iu],λg h=>by simp at h⟩
 | (k,x)::r=>by
  obtain⟨i1,i2⟩:=n8 f v r;rw[show iu f v ((k,x)::r)=(if k=f then(k,v)::r else(k,x)::iu f v r) from rfl];by_cases hk:k=f
  ·rw[if_pos hk];subst hk;exact⟨by simp,λg h=>by simpa using h⟩
  ·rw[if_neg hk];refine⟨?_,λg h=>?_⟩
   ·rw[map_cons];exact mem_cons_of_mem _ i1
   ·rw[map_cons] at h ⊢;rcases mem_cons.mp h with e|e
    ·exact mem_cons.mpr (.inl e)
    ·exact mem_cons_of_mem _ (i2 g e)
theorem jG(f:Str)(v:V):∀fs:List (Str×V),(iu f v fs).length<=fs.length+1
 |[]=>by simp[iu]
 | (k,x)::r=>by
  have ih:=jG f v r;rw[show iu f v ((k,x)::r)=(if k=f then(k,v)::r else(k,x)::iu f v r) from rfl];by_cases hk:k=f
  ·rw[if_pos hk,length_cons,length_cons];omega
  ·rw[if_neg hk,length_cons,length_cons];omega
theorem RelO.some_of{v:V}{o:Option Q7}(r:RelO (some v) o):∃u,o=some u/\RelV v u:=by
 cases o with
 |none=>exact(show False from r).elim
 |some u=>exact⟨u,rfl,r⟩
theorem RelO.none_of{o:Option Q7}(r:RelO none o):o=none:=by
 cases o with
 |none=>rfl
 |some u=>exact(show False from r).elim
theorem A8{v:V}{u:Q7}(r:RelV v u):handedIn u=true:=by
 cases v with
 |non=>cases (show u=Value.none from r);rfl
 |bl b=>cases (show u=Value.bool b from r);rfl
 |int i=>obtain⟨t,e⟩:=(show ∃t,u=Value.int i t from r);cases e;rfl
 |str x=>obtain⟨t,e⟩:=(show ∃t,u=Value.str x t from r);cases e;rfl
 |byt b=>obtain⟨t,e⟩:=(show ∃t,u=Value.bytes b t from r);cases e;rfl
 |flt b=>obtain⟨t,e⟩:=(show ∃t,u=Value.float b t from r);cases e;rfl
 |ref a=>cases (show u=Value.ref a from r);rfl
 |ty n=>cases (show u=Value.type n from r);rfl
section
variable{P:Va}{w:Vb}{H H':Hp}{h h':Vc}{a C dx:Q9}{fs fs':List (Str×V)}
theorem om(hok:nZ P w H h)(e:H a=some (.ins C dx fs)):∃mA,yc h a dx C mA/\(∀f,RelO (fs.lookup f) (mA f))/\PySem.Within mA (fs.map (·.1))/\fs.length<=1000/\H dx=some (.own a):=by
 obtain⟨d,z,ne,ob,mA,n,r,q⟩:=(show bM P w H h a (.ins C dx fs) from hok a _ e);exact⟨mA,⟨ob,n,ne⟩,r,q,z,d⟩
end
structure iC(K:Frag)(C:Q9):Prop where
 pg:plainGet K C Str.empty=true
 hd:hasDictIn K C=true
 po:plainOver K C=true
 sa:findIn K (.ref C) "__setattr__" = some (some (.builtin "object.__setattr__"))
theorem iC.get{K:Frag}{C:Q9}(c:iC K C)(f:Str):plainGet K C f=true:=c.pg
def b0(K:Frag)(C:Q9)(f:Str):Prop:=findIn K (.ref C) f=some none
theorem b0.taker{K:Frag}{C:Q9}{f:Str}(n:b0 K C f):takerIn K C f=some none:=by
 unfold takerIn;rw[show findIn K (.ref C) f=some none from n];rfl
structure CL(K:Frag)(C:Q9)(m:Str)(f:Q9):Prop where
 at_:findIn K (.ref C) m=some (some (.ref f))
 fn:isFn K (.ref f)=true
 kp:keepIn K (.ref f)=true
section
variable{X:Cx}{pins:List (Q9×Obj)}{σ:St}{H:Hp}{s:Q8}{a C dx:Q9}{fs:List (Str×V)}{f:Str}{v:V}{A:Vf}{E:Q7->Q8->Prop}
theorem xF{b:Bool}{Q:Q7->Q8->Prop}(I:aD X pins σ H s)(e:H a=some (.ins C dx fs))(c:iC X.K C)(n:b0 X.K C f)(l:fs.lookup f=some v)
  (h:∀u s',aD X pins σ H s'->RelV v u->Q u s'):wpAny (model X.prog X.w) A (getAttr (.ref a) f b) Q E s:=by
 obtain⟨mA,O,r,_,_,_⟩:=om I.hok e;obtain⟨u,hu,ru⟩:=RelO.some_of (v:=v) (o:=mA f) (by rw[<-l];exact r f)
 exact E3 I.kIn O (c.get f) c.hd n hu (A8 ru) (h u _ (I.tok _) ru)
theorem pw{m:Str}{g:Q9}{pl:Sem Bool}{Q:Q7×List Q7->Q8->Prop}(I:aD X pins σ H s)(e:H a=some (.ins C dx fs))(c:iC X.K C)(k:CL X.K C m g)(l:fs.lookup m=none)
  (h:Q (.ref g,[.ref a]) s):wpAny (model X.prog X.w) A (getMethod (.ref a) m pl) Q E s:=by
 obtain⟨mA,O,r,_,_,_⟩:=om I.hok e;have hn:mA m=none:=RelO.none_of (by rw[<-l];exact r m)
 exact Cg I.kIn O (c.get m) k.at_ k.fn hn h
theorem wK{y:V}{u:Q7}{Q:Unit->Q8->Prop}(I:aD X pins σ H s)(e:H a=some (.ins C dx fs))(c:iC X.K C)(n:b0 X.K C f)(hl:fs.length<1000)(ry:RelV y u)
  (h:∀s',aD X pins σ (bW H a (.ins C dx (iu f y fs))) s'->Q () s'):wpAny (model X.prog X.w) A (setAttr (.ref a) f u) Q E s:=by
 obtain⟨mA,O,r,wi,_,ho⟩:=om I.hok e;have hz:(fs.map (·.1)).length<=sizeLine:=by rw[length_map,sizeLine_eq];omega
 refine D9 I.kIn O c.sa c.po n.taker c.hd wi hz λh' O' sb=>h _ ?_;have hd:∃o,h'.get? dx=some o:=let ⟨o,_,_,e',_⟩:=O'.ns;⟨o,e'⟩;refine I.write (x:=a) (e:=dx) (by rw[e];exact True.intro) (.inr ho) (λb q hb z=>(sb.2 b hb).trans z) hd ?_
 refine⟨by rw[ak O.ne];exact ho,?_,O.ne,O'.obj,_,O'.ns,λg=>?_,λg hg=>?_⟩
 ·have:=jG f y fs;omega
 ·show RelO ((iu f y fs).lookup g) (if g=f then some u else mA g);rw[nF];by_cases q:g=f
  ·rw[if_pos q,if_pos q];exact ry
  ·rw[if_neg q,if_neg q];exact r g
 ·by_cases q:g=f
  ·rw[q];exact(n8 f y fs).1
  ·refine(n8 f y fs).2 g (wi g λz=>hg ?_);show(if g=f then some u else mA g)=none;rw[if_neg q];exact z
theorem aD.made(I:aD X pins σ H s):aD X pins σ (bW (bW H s.heap.objs.size (.own (s.heap.objs.size+1))) (s.heap.objs.size+1) (.ins C s.heap.objs.size []))
  {s with heap:=(s.heap.push emptyDict).push (instObj C s.heap.objs.size)}:=by
 have e1:(s.heap.push emptyDict).get? s.heap.objs.size=some emptyDict:=get?_push_size s.heap rfl;have e2:((s.heap.push emptyDict).push (instObj C s.heap.objs.size)).get? (s.heap.objs.size+1)=some (instObj C s.heap.objs.size):=by
  have:=get?_push_size (s.heap.push emptyDict) (o:=instObj C s.heap.objs.size) rfl;rwa[size_push] at this
 have e3:(s.heap.push emptyDict).Ns s.heap.objs.size (λ_=>none):=⟨emptyDict,#[],_,e1,rfl,(λe he=>absurd he (by simp)),λ_=>rfl⟩
 have I1:=I.laid (a:=s.heap.objs.size) (o:=.own (s.heap.objs.size+1)) (h':=s.heap.push emptyDict) (t':=s.toks) (λb u q=>get?_push_of_some _ q) (le_refl _) ⟨_,e1⟩;refine I1.laid (a:=s.heap.objs.size+1) (o:=.ins C s.heap.objs.size []) (t':=s.toks) (λb u q=>get?_push_of_some _ q) (le_of_eq (size_push _ _)) ?_;have ne:s.heap.objs.size≠s.heap.objs.size+1:=ne_of_lt (Nat.lt_succ_self _);refine⟨by rw[ak ne,aF],zero_le _,ne,e2,λ_=>none,(Heap.Ns1.of_empty e3).at λo q=>get?_push_of_some _ q,λ_=>True.intro,λy hy=>absurd rfl hy⟩
theorem EA{prog:Va}{w:Vb}{env:Env}{e:Vd}{f:Str}{pos:Pos}{s:Q8}{Q:Q7->Q8->Prop}(hb:attributeBase e f env (eval e env)=eval e env)
  (h:wpAny (model prog w) A (eval e env) (λo s₁=>wpAny (model prog w) A (getAttr o f true) Q E s₁) E s):wpAny (model prog w) A (eval (.Attribute e f pos) env) Q E s:=
 Attribute_any_ h (by rw[arm_eval_Attribute,hb])
end
def IX(K:Frag)(ta:TE)(f:Str):TE:=λσ H Q=>ta σ H λx H1=>∃a C dx fs v,x=.ref a/\H1 a=some (.ins C dx fs)/\iC K C/\b0 K C f/\fs.lookup f=some v/\Q v H1
def Ja(K:Frag)(ta tv:TE)(f:Str):TS:=λD σ H=>tv σ H λy H1=>ta σ H1 λx H2=>∃a C dx fs,x=.ref a/\H2 a=some (.ins C dx fs)/\iC K C/\b0 K C f/\fs.length<1000/\
 D.nx σ (bW H2 a (.ins C dx (iu f y fs)))
section
variable{X:Cx}{o e value:Vd}{f:Str}{pos pos' tpos:Pos}{ta tv:TE}
theorem oR(he:PE X e ta)(hb:attributeBase e f X.env (eval e X.env)=eval e X.env):PE X (.Attribute e f pos) (IX X.K ta f):=by
 intro pins s σ H Q I h;refine EA hb (cA (he pins s σ H _ I h) λu s1 ⟨x,H1,I1,rx,a,C,dx,fs,v,ex,ea,c,n,l,q⟩=>?_);subst ex;obtain rfl:u=Value.ref a:=rx;exact xF I1 ea c n l λu' s2 I2 ru=>⟨v,H1,I2,ru,q⟩
theorem Ft(ha:PE X o ta)(hv:PE X value tv)(hs:swapsWith value (some (.Attribute o f pos')) pos.line X.env=pure false):PS X (.Assign [.Attribute o f pos'] value pos) (Ja X.K ta tv f):=by
 intro pins s σ H D I h;refine plainObj_wpAny_Assign_Attribute (cA (hv pins s σ H _ I h) λu s1 ⟨y,H1,I1,ry,q⟩=>cA (ha pins s1 σ H1 _ I1 q) λov s2 ⟨x,H2,I2,rx,a,C,dx,fs,ex,ea,c,n,l,q2⟩=>?_) hs;subst ex;obtain rfl:ov=Value.ref a:=rx;exact wK I2 ea c n l ry λs3 I3=>⟨σ,_,I3,q2⟩
end
section
variable{X:Cx}{pins:List (Q9×Obj)}{σ:St}{H:Hp}{s:Q8}{A:Vf}{E:Q7->Q8->Prop}{Q:Q7->Q8->Prop}{c:Q7}{b:Bool}
inductive lK(K:Frag)(H:Hp):V->Q7->Prop where
 |non:lK K H .non (.type "NoneType")
 |bl (x:Bool):lK K H (.bl x) (.type "bool")
 |int (i:Int):lK K H (.int i) (.type "int")
 |str (x:Str):lK K H (.str x) (.type "str")
 |flt (x:UInt64):lK K H (.flt x) (.type "float")
 |lst {a:Q9} {xs:List V} (e:H a=some (.lst xs)):lK K H (.ref a) (.type "list")
 |frz {a:Q9} {o:Obj} {xs:List V} (e:H a=some (.frz o (.lst xs))):lK K H (.ref a) (.type "list")
 |tup {a:Q9} {xs:List V} (e:H a=some (.tup xs)):lK K H (.ref a) (.type "tuple")
 |dK {a:Q9} {kvs:List (Key×V)} (e:H a=some (.dK kvs)):lK K H (.ref a) (.type "dict")
 |dT {a:Q9} {kvs:List (List Key×V)} (e:H a=some (.dT kvs)):lK K H (.ref a) (.type "dict")
 |ins {a C dx:Q9} {fs:List (Str×V)} (e:H a=some (.ins C dx fs)) (cl:iC K C) (ha:findIn K (.ref C) "__class__" = some (some (.builtin "object.__class__")))
   (hn:specialIn K (.builtin "object.__class__") "__get__" = some (some (.builtin "getset_descriptor.__get__"))) (htk:PySem.W.takesIn K (.builtin "object.__class__")=some true)
   (hm:PySem.W.mroIn K C (.type "object")=some true):lK K H (.ref a) (.ref C)
theorem A4{x:V}{u t:Q7}(I:aD X pins σ H s)(rx:RelV x u)(ty:lK X.K H x t)(e:kitOne X.K t c=some b)(h:∀tk,Q (.bool b) {s with toks:=tk}):
  wpAny (model X.prog X.w) A (call (.builtin "isinstance") [u,c]) Q E s:=by
 cases ty with
 |non=>cases (show u=Value.none from rx);exact kia_one PySem.W.kitx_none I.kIn True.intro e (λz=>nomatch z) h
 |bl y=>cases (show u=Value.bool y from rx);exact kia_one PySem.W.kitx_bool I.kIn True.intro e (λz=>nomatch z) h
 |int i=>obtain⟨t,q⟩:=(show ∃t,u=Value.int i t from rx);cases q;exact kia_one PySem.W.kitx_int I.kIn True.intro e (λz=>nomatch z) h
 |str y=>obtain⟨t,q⟩:=(show ∃t,u=Value.str y t from rx);cases q;exact kia_one PySem.W.kitx_str I.kIn True.intro e (λz=>nomatch z) h
 |flt y=>obtain⟨t,q⟩:=(show ∃t,u=Value.float y t from rx);cases q;exact kia_one PySem.W.kitx_float I.kIn True.intro e (λz=>nomatch z) h
 |@lst a xs ea=>
  cases (show u=Value.ref a from rx);obtain⟨_,_,n,_,h1⟩:=(show bM X.prog X.w H s.heap a (.lst xs) from I.hok a _ ea);exact kia_one kitx_list I.kIn ⟨_,h1,rfl⟩ e (λz=>nomatch z) h
 |@frz a ob xs ea=>
  cases (show u=Value.ref a from rx);obtain⟨_,_,_,n,_,h1⟩:=(show bM X.prog X.w H s.heap a (.frz ob (.lst xs)) from I.hok a _ ea);exact kia_one kitx_list I.kIn ⟨_,h1,rfl⟩ e (λz=>nomatch z) h
 |@tup a xs ea=>
  cases (show u=Value.ref a from rx);obtain⟨_,_,_,p⟩:=(show bM X.prog X.w H s.heap a (.tup xs) from I.hok a _ ea);obtain⟨o,h1,h2,_⟩:=p;exact kia_one PySem.W.kitx_tuple I.kIn ⟨o,h1,h2⟩ e (λz=>nomatch z) h
 |@dK a kvs ea=>
  cases (show u=Value.ref a from rx);obtain⟨_,_,vs,_,p⟩:=(show bM X.prog X.w H s.heap a (.dK kvs) from I.hok a _ ea);obtain⟨o,es,ep,h1,h2,_⟩:=p;exact kia_one kitx_dict I.kIn ⟨o,h1,h2.1⟩ e (λz=>nomatch z) h
 |@dT a kvs ea=>
  cases (show u=Value.ref a from rx);obtain⟨_,_,xs,_,o,es,ep,h1,h2,_⟩:=(show bM X.prog X.w H s.heap a (.dT kvs) from I.hok a _ ea);exact kia_one kitx_dict I.kIn ⟨o,h1,h2.1⟩ e (λz=>nomatch z) h
 |@ins a C dx fs ea cl ha hn htk hm=>
  cases (show u=Value.ref a from rx);obtain⟨mA,O,_⟩:=om I.hok ea;obtain⟨od,J,_⟩:=O.look;exact kia_one (PySem.W.kitx_own (cl.get _) cl.hd ha hn htk hm) I.kIn J e (λz=>nomatch z) h
end
structure cg(k:Nat)(A:Vf):Prop where
 hd:A.handled=none
 dp:A.depth+3 * k+5<recursionLimit
 un:A.units+16 * k+200<cLine
theorem cg.mono{j k:Nat}{A:Vf}(r:cg k A)(h:j<=k):cg j A:=⟨r.hd,by have:=r.dp;omega,by have:=r.un;omega⟩
theorem cg.deeper{k:Nat}{A:Vf}(r:cg (k+1) A)(env:Env):cg k (A.deeper env):=
 ⟨r.hd,by have:=r.dp;show A.depth+1+3 * k+5<_;omega,by have:=r.un;show A.units+3+16 * k+200<_;omega⟩
theorem xo{A:Vf}{C:Q9}{us:List Q7}{kw:List (Str×Q7)}:(A.under (.builtin "type.__call__" ⟨.ref C::us,kw⟩)).depth=A.depth+1:=by
 first|rfl|simp[Around.under,Code.weight,Code.isCreation,Code.isGuard,Code.isCaller,Code.frames,Code.isFrame,guardIds]
theorem xn{A:Vf}{C:Q9}{us:List Q7}{kw:List (Str×Q7)}:(A.under (.builtin "type.__call__" ⟨.ref C::us,kw⟩)).units=A.units+1:=by
 first|rfl|simp[Around.under,Code.cUnits,Code.frames,Code.isFrame]
theorem cg.make{k:Nat}{A:Vf}(r:cg (k+1) A)(C:Q9)(us:List Q7)(kw:List (Str×Q7)):cg k (A.under (.builtin "type.__call__" ⟨.ref C::us,kw⟩)):=
 ⟨r.hd,by have:=r.dp;rw[xo];omega,by have:=r.un;rw[xn];omega⟩
theorem cg.depth{k:Nat}{A:Vf}(r:cg k A):A.depth<recursionLimit:=by have:=r.dp;omega
theorem cg.units{k:Nat}{A:Vf}(r:cg k A):A.units+64<cLine:=by have:=r.un;omega
def D4:TA:=λ_ H Q=>Q [] H
def B2(ta:TE)(tr:TA):TA:=λσ H Q=>ta σ H λx H1=>tr σ H1 λxs H2=>Q (x::xs) H2
section
variable{X:Cx}{e:Vd}{es:List Vd}{te:TE}{t:TA}{pos:Pos}
theorem de:PA X [] D4:=λ_ _ _ _ H Q I h=>Calls.spliced_nil ⟨[],H,I,.nil,h⟩
theorem bH(ha:PE X e te)(hr:PA X es t)(hs:starEach (e::es) X.env=(false,eval e X.env)::starEach es X.env:=by rfl):PA X (e::es) (B2 te t):=by
 intro pos pins s σ H Q I h;rw[hs];show wpAny _ _ (spliced ((false,eval e X.env)::backTo pos (starEach es X.env))) _ _ s;refine Calls.spliced_cons (cA (ha pins s σ H _ I h) λu s1 ⟨x,H1,I1,r1,q1⟩=>?_);exact cA (hr pos pins s1 σ H1 _ I1 q1) λus s2 ⟨xs,H2,I2,r2,q2⟩=>⟨x::xs,H2,I2,.cons r1 r2,q2⟩
def IL(t:TA):TE:=λσ H Q=>t σ H λxs H1=>xs.length<=sizeLine/\∀p,H1 p=none->Q (.ref p) (bW H1 p (.tup xs))
def IT(t:TA):TE:=λσ H Q=>t σ H λxs H1=>xs.length<=sizeLine/\∀p,H1 p=none->Q (.ref p) (bW H1 p (.lst xs))
theorem FA{x1}(h:PA X es t):PE X (.Tuple es x1 pos) (IL t):=by
 intro pins s σ H Q I hq;refine wpAny_Tuple_spliced (cA (h pos pins s σ H _ I hq) λus s1 ⟨xs,H1,I1,r,z,q⟩=>⟨by rw[<-r.length];exact z,?_⟩)
 have hf:H1 s1.heap.objs.size=none:=I1.hok.fresh (le_refl _);refine⟨.ref s1.heap.objs.size,bW H1 s1.heap.objs.size (.tup xs),I1.laid (t':=s1.toks) (λb u e=>get?_push_of_some _ e) (le_refl _) ?_,rfl,q _ hf⟩;exact⟨z,us,r,⟨_,get?_push_size _ rfl,rfl,_,rfl⟩⟩
theorem BA(h:PA X es t):PE X (.List es pos) (IT t):=by
 intro pins s σ H Q I hq;refine wpAny_List_spliced (cA (h pos pins s σ H _ I hq) λus s1 ⟨xs,H1,I1,r,z,q⟩=>⟨by rw[<-r.length];exact z,?_⟩)
 have hf:H1 s1.heap.objs.size=none:=I1.hok.fresh (le_refl _);refine⟨.ref s1.heap.objs.size,bW H1 s1.heap.objs.size (.lst xs),I1.laid (t':=s1.toks) (λb u e=>get?_push_of_some _ e) (le_refl _) ?_,rfl,q _ hf⟩;exact⟨z,us,0,r,get?_push_size _ rfl⟩
end
abbrev Sp:=List V->Hp->VK->XK->Prop
abbrev AD:=List Env->Hp->Q8->XK->Q7->Q8->Prop
structure yd(P:Va)(w:Vb)(K:Frag)(mg:Str->Option Q7)(base:Vc)(A:Vf)(outer:List Env)(s:Q8)(H:Hp):Prop where
 frames:A.frames=some outer
 mod:Mod K mg base
 bs:∀b o,base.get? b=some o->s.heap.get? b=some o/\H b=none
 bsz:base.objs.size<=s.heap.objs.size
 funs:s.heap.FunFrames base outer
 frf:∀b∈frs outer,H b=none
 hok:nZ P w H s.heap
 bare:AllBare s.gens
def CE(outer:List Env)(P:Va)(w:Vb)(H:Hp)(s:Q8)(Q:VK)(u:Q7)(s':Q8):Prop:=
 ∃v H',s'.os=s.os/\AllBare s'.gens/\Un (frs outer) [] H H' s.heap s'.heap/\nZ P w H' s'.heap/\RelV v u/\Q v H'
def CR(CX:AD)(outer:List Env)(P:Va)(w:Vb)(H:Hp)(s:Q8)(Q:VK)(E:XK)(r:Result)(s':Q8):Prop:=
 match r with
 |.ok (.ret u)=>CE outer P w H s Q u s'
 |.ok _=>False
 |.error e=>CX outer H s E e s'
structure eI(P:Va)(w:Vb)(K:Frag)(mg:Str->Option Q7)(base:Vc)(CX:AD)(k:Nat)(f:Q9)(fd:FuncData)(ps:List Str)(sp:Sp):Prop where
 len:∀vs H Q E,sp vs H Q E->vs.length=ps.length
 run:∀(A:Vf)(outer:List Env)(s:Q8)(H:Hp)(args:Args)(us:List Q7)(vs:List V)(Q:VK)(E:XK),cg k A->yd P w K mg base A outer s H->BindsTo s fd args (ps.zip us)->Vals vs us->sp vs H Q E->
  codeAny (model P w) A (.call (.ref f) args) (CR CX outer P w H s Q E) s
theorem eI.imp{P:Va}{w:Vb}{K:Frag}{mg:Str->Option Q7}{base:Vc}{CX:AD}{k:Nat}{f:Q9}{fd:FuncData}{ps:List Str}{sp sp':Sp}(F:eI P w K mg base CX k f fd ps sp)
  (h:∀vs H Q E,sp' vs H Q E->sp vs H Q E):eI P w K mg base CX k f fd ps sp':=
 ⟨λvs H Q E q=>F.len vs H Q E (h _ _ _ _ q),λA outer s H args us vs Q E hr he hb hv hs=>F.run A outer s H args us vs Q E hr he hb hv (h _ _ _ _ hs)⟩
theorem yd.make{P:Va}{w:Vb}{K:Frag}{mg:Str->Option Q7}{base:Vc}{A:Vf}{outer:List Env}{s:Q8}{H:Hp}(e:yd P w K mg base A outer s H)(C:Q9)(us:List Q7)(kw:List (Str×Q7)):
  yd P w K mg base (A.under (.builtin "type.__call__" ⟨.ref C::us,kw⟩)) outer s H:=⟨by first|exact e.frames|(simpa [Around.under,Code.envs,Code.isFrame,pushEnvs] using e.frames),e.mod,e.bs,e.bsz,e.funs,e.frf,e.hok,e.bare⟩
section
variable{X:Cx}{pins:List (Q9×Obj)}{σ:St}{H:Hp}{s s':Q8}
theorem aD.env0(I:aD X pins σ H s):yd X.prog X.w X.K X.mg X.base X.A X.stack s H:=
 ⟨I.ok.frames,I.ok.mod,I.bs,le_trans I.ok.bsz I.sz,I.stack,I.stkFree,I.hok,I.bare⟩
theorem aD.after{Q:VK}{u:Q7}(I:aD X pins σ H s)(h:CE X.stack X.prog X.w H s Q u s'):EP X pins σ Q u s':=by
 obtain⟨v,H',os,bare,un,hok,r,q⟩:=h;obtain⟨hh,g,d,t,os'⟩:=s';obtain rfl:os'=s.os:=os;exact⟨v,H',I.call (h':=hh) (g':=g) (d':=d) (t':=t) (ch:=[]) un hok bare (λb z=>absurd z (by simp)),r,q⟩
end
def Hg(sp:Sp)(dvs:List V)(E:XK)(t:TA):TE:=λσ H Q=>t σ H λvs H1=>sp (vs++dvs) H1 Q E
def Hd(C:Q9)(sp:Sp)(dvs:List V)(E:XK)(t:TA):TE:=λσ H Q=>t σ H λvs H1=>∀x dx,H1 x=none->H1 dx=none->dx≠x->
 sp (.ref x::(vs++dvs)) (bW (bW H1 dx (.own x)) x (.ins C dx [])) (λv H2=>v=.non/\Q (.ref x) H2) E
def fZ(K:Frag)(fd:FuncData)(ps:List Str)(ds:List Q7):Prop:=
 ∀(s:Q8)(us:List Q7),K.In s.heap->(us++ds).length=ps.length->BindsTo s fd ⟨us,[]⟩ (ps.zip (us++ds))
theorem fZ.all{K:Frag}{fd:FuncData}{ps:List Str}(h:∀us:List Q7,us.length=ps.length->bindArgs fd ⟨us,[]⟩=pure (ps.zip us)):fZ K fd ps []:=λs us _ hl=>by
 rw[append_nil] at hl ⊢;exact .of_eq (h us hl)
def nu(CX:AD)(X:Cx)(E:XK):Prop:=∀(pins:List (Q9×Obj))(σ:St)(H:Hp)(s:Q8)(e:Q7)(s':Q8),aD X pins σ H s->CX X.stack H s E e s'->X.xe e s'
section
variable{X:Cx}{CX:AD}{k:Nat}{f C:Q9}{fd:FuncData}{ps:List Str}{sp:Sp}{dvs:List V}{ds:List Q7}{E:XK}{x m:Str}{p pos apos:Pos}{e o:Vd}{es:List Vd}{ta:TE}{t:TA}
theorem wQ{pins:List (Q9×Obj)}{σ:St}{H:Hp}{s:Q8}{Q:VK}{us:List Q7}{vs:List V}(F:eI X.prog X.w X.K X.mg X.base CX k f fd ps sp)(hr:cg k X.A)(hb:fZ X.K fd ps ds)(hd:Vals dvs ds)(hx:nu CX X E)
  (I:aD X pins σ H s) (r:Vals vs us) (h:sp (vs++dvs) H Q E):wpAny (model X.prog X.w) X.A (call (.ref f) us) (EP X pins σ Q) X.xe s:=by
 have r2:Vals (vs++dvs) (us++ds):=r.append hd;have hl:(us++ds).length=ps.length:=by rw[<-r2.length];exact F.len _ _ _ _ h
 refine wpAny_call (codeAny_mono (F.run X.A X.stack s H ⟨us,[]⟩ (us++ds) (vs++dvs) Q E hr I.env0 (hb s us I.kIn hl) r2 h) λr s' hq=>?_);cases r with
 |error e=>exact hx pins σ H s e s' I hq
 |ok fl=>
  cases fl with
  |ret u=>exact I.after hq
  |next=>exact False.elim hq
  |brk=>exact False.elim hq
  |cont=>exact False.elim hq
theorem yv(F:eI X.prog X.w X.K X.mg X.base CX k f fd ps sp)(hr:cg k X.A)(hg:Gl X x)(hm:X.mg x=some (.ref f))(hk:keepIn X.K (.ref f)=true)(hb:fZ X.K fd ps ds)(hd:Vals dvs ds)(hx:nu CX X E)
  (ha:PA X (e::es) t) (hdb:(x == ("__debug__":Str))=false:=by decide) (he:starEach (e::es) X.env=(false,eval e X.env)::starEach es X.env:=by rfl) (hpl:(backTo pos (starEach es X.env)).any (·.1)=false:=by rfl):
  PE X (.Call (.Name x p) (e::es) [] pos) (Hg sp dvs E t):=by
 intro pins s σ H Q I h;refine wpAny_Call_Name_kw (tq I hg hm ?_ hdb);refine PySem.W.callWith_K (h₀:=X.base) I.ok.mod.kin hk (cA (ha pos pins s σ H _ I h) λus s1 ⟨vs,H1,I1,r,q⟩=>⟨I1.kIn,?_⟩) he hpl;exact wQ F hr hb hd hx I1 r q
structure Mk(K:Frag)(C f:Q9):Prop where
 makes:makesIn K C=true
 init:findIn K (.ref C) "__init__" = some (some (.ref f))
 fn:isFn K (.ref f)=true
 kp:keepIn K (.ref C)=true
theorem Bg{pins:List (Q9×Obj)}{σ:St}{H:Hp}{s:Q8}{Q:VK}{us:List Q7}{vs:List V}(M:Mk X.K C f)(F:eI X.prog X.w X.K X.mg X.base CX k f fd ps sp)(hr:cg (k+1) X.A)(hb:fZ X.K fd ps ds)(hd:Vals dvs ds)
  (hx:nu CX X E) (I:aD X pins σ H s) (r:Vals vs us)
  (h:∀x dx,H x=none->H dx=none->dx≠x->sp (.ref x::(vs++dvs)) (bW (bW H dx (.own x)) x (.ins C dx [])) (λv H2=>v=.non/\Q (.ref x) H2) E):
  wpAny (model X.prog X.w) X.A (call (.ref C) us) (EP X pins σ Q) X.xe s:=by
 have hq:=h (s.heap.objs.size+1) s.heap.objs.size (I.hok.fresh (Nat.le_succ _)) (I.hok.fresh (le_refl _)) (ne_of_lt (Nat.lt_succ_self _));have I2:=aD.made (C:=C) I;have r2:Vals (V.ref (s.heap.objs.size+1)::(vs++dvs)) (Value.ref (s.heap.objs.size+1)::(us++ds)):=.cons rfl (r.append hd);have hl:(Value.ref (s.heap.objs.size+1)::us++ds).length=ps.length:=by
  have e:=r2.length;rw[F.len _ _ _ _ hq] at e;exact e.symm
 refine wpAny_call (BX (f:=f) I.kIn M.makes M.init (beq_iff_eq.mp M.fn) (codeAny_mono (F.run _ X.stack _ _ ⟨Value.ref (s.heap.objs.size+1)::us,[]⟩ (Value.ref (s.heap.objs.size+1)::(us++ds)) _ _ E (hr.make C us [])
  (I2.env0.make C us []) (hb _ (Value.ref (s.heap.objs.size+1)::us) I2.kIn hl) r2 hq) λr s' hq'=>?_))
 cases r with
 |error e=>exact hx pins σ _ _ e s' I2 hq'
 |ok fl=>
  cases fl with
  |ret u=>
   obtain⟨v,H',I3,rv,ev,q3⟩:=I2.after hq';subst ev;exact⟨rv,⟨V.ref (s.heap.objs.size+1),H',I3,rfl,q3⟩⟩
  |next=>exact False.elim hq'
  |brk=>exact False.elim hq'
  |cont=>exact False.elim hq'
theorem Bz(M:Mk X.K C f)(F:eI X.prog X.w X.K X.mg X.base CX k f fd ps sp)(hr:cg (k+1) X.A)(hg:Gl X x)(hm:X.mg x=some (.ref C))(hb:fZ X.K fd ps ds)(hd:Vals dvs ds)(hx:nu CX X E)
  (hdb:(x == ("__debug__":Str))=false:=by decide):PE X (.Call (.Name x p) [] [] pos) (Hd C sp dvs E D4):=by
 intro pins s σ H Q I h;refine wpAny_Call_Name_kw (tq I hg hm ?_ hdb);exact PySem.W.callWith_K0 I.kIn M.kp (Bg (us:=[]) M F hr hb hd hx I .nil h)
end
structure aE(N P:List Str)(sc:Scope):Prop where
 kind:sc.kind=.function
 co:sc.isCoroutine=false
 gen:sc.isGenerator=false
 nd:N.Nodup
 pre:N.take P.length=P
 par:∀x∈P,sc.names.lookup x=some .local\/sc.names.lookup x=some .cell
 nofree:∀y∈sc.names,y.2≠.free
theorem rC{kindOf:Str->Option NameKind}{x:Str}:∀{binds:List (Str×Q7)}{m:Str->Option Q7},(∀v,(x,v)∉binds)->bindL kindOf binds m x=m x
 |[],_,_=>rfl
 | (n,v)::r,m,h=>by
  unfold bindL;rw[rC λw hw=>h w (mem_cons_of_mem _ hw)];split
  ·have:x≠n:=by rintro rfl;exact h v mem_cons_self
   simp[this]
  ·rfl
theorem rF{kindOf:Str->Option NameKind}{x:Str}:∀{binds:List (Str×Q7)}{m:Str->Option Q7},(∀v,(x,v)∉binds)->bindC kindOf binds m x=m x
 |[],_,_=>rfl
 | (n,v)::r,m,h=>by
  unfold bindC;rw[rF λw hw=>h w (mem_cons_of_mem _ hw)];split
  ·rfl
  ·have:x≠n:=by rintro rfl;exact h v mem_cons_self
   simp[this]
theorem rE{kindOf:Str->Option NameKind}{x:Str}{v:Q7}:∀{P:List Str}{vs:List Q7}{i:Nat}{m:Str->Option Q7},P.Nodup->P[i]?=some x->vs[i]?=some v->kindOf x=some .local->
  bindL kindOf (P.zip vs) m x=some v
 |[],_,_,_,_,h,_,_=>by simp at h
 |_::_,[],_,_,_,_,h,_=>by simp at h
 |p::P,w::vs,0,m,nd,h1,h2,hk=>by
  simp at h1 h2;subst h1;subst h2;show bindL kindOf ((p,w)::P.zip vs) m p=_;unfold bindL;rw[rC λv hv=>(nodup_cons.mp nd).1 (List.of_mem_zip hv).1,if_pos hk];simp
 |p::P,w::vs,i+1,m,nd,h1,h2,hk=>by
  show bindL kindOf ((p,w)::P.zip vs) m x=_;unfold bindL;exact rE (i:=i) (nodup_cons.mp nd).2 (by simpa using h1) (by simpa using h2) hk
theorem rG{kindOf:Str->Option NameKind}{x:Str}{v:Q7}:∀{P:List Str}{vs:List Q7}{i:Nat}{m:Str->Option Q7},P.Nodup->P[i]?=some x->vs[i]?=some v->kindOf x≠some .local->
  bindC kindOf (P.zip vs) m x=some v
 |[],_,_,_,_,h,_,_=>by simp at h
 |_::_,[],_,_,_,_,h,_=>by simp at h
 |p::P,w::vs,0,m,nd,h1,h2,hk=>by
  simp at h1 h2;subst h1;subst h2;show bindC kindOf ((p,w)::P.zip vs) m p=_;unfold bindC;rw[rF λv hv=>(nodup_cons.mp nd).1 (List.of_mem_zip hv).1,if_neg hk];simp
 |p::P,w::vs,i+1,m,nd,h1,h2,hk=>by
  show bindC kindOf ((p,w)::P.zip vs) m x=_;unfold bindC;exact rG (i:=i) (nodup_cons.mp nd).2 (by simpa using h1) (by simpa using h2) hk
def start(N:List Str)(vs:List V):St:=vs.map some++replicate (N.length - vs.length) none
def jP(CX:AD)(P:Va)(w:Vb)(K:Frag)(mg:Str->Option Q7)(base:Vc)(N:List Str)(qual:Str)(scope:Scope)(f:Q9)(cd:Q7)(A:Vf)(outer:List Env)(s:Q8)(H:Hp)(E:XK):Cx where
 prog:=P
 w:=w
 K:=K
 mg:=mg
 base:=base
 A:=A.deeper (envOfC qual scope s.heap.objs.size f cd)
 N:=N
 s₀:=s
 H₀:=H
 env:=envOfC qual scope s.heap.objs.size f cd
 outer:=outer
 stack:=envOfC qual scope s.heap.objs.size f cd::outer
 ex:=[]
 calm:=true
 fn:=λ_=>true
 pn:=[]
 xe:=λe s'=>wpAny (model P w) (A.deeper (envOfC qual scope s.heap.objs.size f cd)) (leaving (envOfC qual scope s.heap.objs.size f cd) e) (λ_ s''=>CX outer H s E e s'') (λe' s''=>CX outer H s E e' s'') s'
theorem we{sc:Scope}{n:Nat}{x:Str}(h:sc.names.lookup x=some .cell):∃c,(cellsFrom n sc.names []).lookup x=some c:=by
 have q:=PySem.W.cellsFrom_some sc.names n [] (.inl h);exact Option.isSome_iff_exists.mp q
theorem A5{CX:AD}{P:Va}{w:Vb}{K:Frag}{mg:Str->Option Q7}{base:Vc}{N ps:List Str}{qual:Str}{scope:Scope}{f:Q9}{cd:Q7}{A:Vf}{outer:List Env}{s s1:Q8}{H:Hp}{E:XK}{us:List Q7}{vs:List V}
  (S:aE N ps scope) (hd:A.handled=none) (e0:yd P w K mg base A outer s H) (hl:vs.length=ps.length) (r:Vals vs us)
  (x:InCallC s s.heap.objs.size (bindL (envOfC qual scope s.heap.objs.size f cd).kindOf (ps.zip us) λ_=>none) (cellsFrom (s.heap.objs.size+1) scope.names []) (bindC (envOfC qual scope s.heap.objs.size f cd).kindOf (ps.zip us) λ_=>none) s1):
  aD (jP CX P w K mg base N qual scope f cd A outer s H E) [] (start N vs) H s1:=by
 have hpl:ps.length<=N.length:=by have:=congrArg List.length S.pre;rw[length_take] at this;omega
 obtain⟨h1,tk,rfl,hk⟩:=x.done;have noA:∀b:Q9,b∉(jP CX P w K mg base N qual scope f cd A outer s H E).ex:=λb z=>absurd (show b∈([]:List Q9) from z) (by simp)
 refine⟨⟨e0.mod,S.kind,rfl,rfl,le_refl _,λy z c h1 h2=>?_,λy hy=>?_,λy c _ h=>?_,λ_=>hd,Around.frames_deeper e0.frames,.inr ⟨rfl,rfl⟩,λb z=>absurd z (noA b),e0.bs,e0.bsz,λb _ _=>noA b,λb z=>absurd z (noA b),e0.funs,e0.frf⟩,
  rfl,e0.bare,Un.kept hk,⟨_,x.toInCall.ns,λi y v h1 h2 h3=>?_⟩,λy c h=>⟨_,x.cell y c h⟩,e0.hok.fresh (le_refl _),λy c h=>?_,λp hp=>absurd (show p∈([]:List (Q9×Obj)) from hp) (by simp),e0.hok.kept hk,?_⟩
 ·exact name_of_addr x.apart (PySem.mem_of_lookup h1) (PySem.mem_of_lookup h2)
 ·have hy:scope.names.lookup y=some .cell\/scope.names.lookup y=some .free:=hy;rcases hy with hy|hy
  ·exact we hy
  ·exact absurd rfl (S.nofree _ (PySem.mem_of_lookup hy))
 ·exact le_of_lt (x.above y c (PySem.mem_of_lookup h))
 ·have hi:i<vs.length:=by
   unfold start at h2;by_cases hi:i<vs.length
   ·exact hi
   ·rw[List.getElem?_append_right (by simpa using hi)] at h2
    rw[List.getElem?_replicate] at h2;split at h2 <;> cases h2
  have ha:vs[i]?=some v:=by
   unfold start at h2;rw[List.getElem?_append_left (by simpa using hi),getElem?_map] at h2
   cases e:vs[i]? with
   |none=>rw[e] at h2;cases h2
   |some a=>rw[e] at h2;cases h2;rfl
  obtain⟨u,hu,rv⟩:=r.get ha;have hp:ps[i]?=some y:=by
   rw[<-S.pre,List.getElem?_take_of_lt (by omega)];exact h1
  have ndP:ps.Nodup:=by rw[<-S.pre];exact S.nd.sublist (List.take_sublist _ _)
  refine⟨u,rv,?_⟩;rcases S.par y (List.mem_of_getElem? hp) with k|k
  ·exact .inl ⟨k,rE ndP hp hu k⟩
  ·obtain⟨c,e⟩:=we (n:=s.heap.objs.size+1) k;refine .inr ⟨.inl k,c,e,?_⟩;have q:=x.cell y c e;rw[rG ndP hp hu (by show scope.names.lookup y≠_;rw[k];decide)] at q
   exact q
 ·exact e0.hok.fresh (le_of_lt (x.above y c (PySem.mem_of_lookup h)))
 ·unfold start;show _=N.length;rw[length_append,length_map,length_replicate];omega
theorem EX{CX:AD}{P:Va}{w:Vb}{K:Frag}{mg:Str->Option Q7}{base:Vc}{k:Nat}{f:Q9}{name qual:Str}{params:Arguments}{body:List Ve}{scope:Scope}{dV kV doc pm cdv ct oc:Q7}{an od:Option Q9}
  {osl:Array (Option Q7)} {N ps:List Str} {sp:Sp} (lk:K.lookup f=some ⟨oc,od,.func (fnOf name qual params body scope dV kV doc pm an cdv ct),osl⟩) (hcd:codeIn K cdv qual=true) (S:aE N ps scope)
  (len:∀vs H Q E,sp vs H Q E->vs.length=ps.length)
  (hbody:∀(A:Vf)(outer:List Env)(s:Q8)(H:Hp)(vs:List V)(Q:VK)(E:XK),cg k (A.deeper (envOfC qual scope s.heap.objs.size f cdv))->sp vs H Q E->
   ∃t,nv (jP CX P w K mg base N qual scope f cdv A outer s H E) body t/\t {nx:=λ_ H'=>Q .non H',rt:=Q} (start N vs) H):
  eI P w K mg base CX (k+1) f (fnOf name qual params body scope dV kV doc pm an cdv ct) ps sp:=by
 refine⟨len,λA outer s H args us vs Q E hr e0 hb r hsp=>?_⟩;have hl:=len _ _ _ _ hsp;have KX:K.In s.heap:=e0.mod.kin.keeps λb o e=>(e0.bs b o e).1;have lim:s.heap.NoLimit:=e0.mod.nolimit.keeps λb o e=>(e0.bs b o e).1;have hkind:∀y∈ps.zip us,scope.names.lookup y.1=some .local\/(scope.names.lookup y.1=some .cell/\((cellsFrom (s.heap.objs.size+1) scope.names []).lookup y.1).isSome=true):=λ⟨n,v⟩ hy=>by
  rcases S.par n (List.of_mem_zip hy).1 with q|q
  ·exact .inl q
  ·exact .inr ⟨q,PySem.W.cellsFrom_some _ _ _ (.inl q)⟩
 refine codeAny_call_function hr.depth (KX _ _ lk) rfl S.co S.gen rfl (PySem.W.codeRec_of KX hcd) (hb _ _ _ _ ?_);refine wpAny_newFunctionEnv_cells S.kind hkind λenv he s1 x=>?_;subst he;refine⟨lim.keeps x.toInCall.keep,codeAny_func ?_⟩;obtain⟨t,ht,hq⟩:=hbody A outer s H vs Q E (hr.deeper _) hsp;have I:aD (jP CX P w K mg base N qual scope f cdv A outer s H E) [] (start N vs) H s1:=A5 S hr.hd e0 hl r x;refine wpAny_mono (ht [] s1 (start N vs) H _ I hq) (λfl s' hs=>?_) λe s' hs=>hs;have fin:∀{σ':St}{H':Hp}{v:V}{u:Q7},aD (jP CX P w K mg base N qual scope f cdv A outer s H E) [] σ' H' s'->RelV v u->Q v H'->CE outer P w H s Q u s':=
  λ{σ' H' v u} J rv q=>⟨v,H',J.os,J.bare,J.base,J.hok,rv,q⟩
 cases fl with
 |ret u=>
  obtain⟨v,σ',H',J,rv,q⟩:=hs;exact fin J rv q
 |next=>
  obtain⟨σ',H',J,q⟩:=hs;exact fin (v:=V.non) (u:=Value.none) J rfl q
 |brk=>
  obtain⟨_,_,_,q⟩:=hs;exact False.elim q
 |cont=>
  obtain⟨_,_,_,q⟩:=hs;exact False.elim q
section
variable{X:Cx}{x:Str}{p pos:Pos}{e:Vd}{es:List Vd}{t:TA}{id T:Vg}{r:List V->Hp->VK->Prop}
def JL(r:List V->Hp->VK->Prop)(t:TA):TE:=λσ H Q=>t σ H λvs H1=>r vs H1 Q
theorem m6(hc:cJ X (.builtin id) r)(hg:Gl X x)(hm:X.mg x=none)(hv:bootBuiltins x=some (.builtin id))(ha:PA X (e::es) t)(hn:x ≠ "__name__" := by decide)(hdb:(x == ("__debug__":Str))=false:=by decide)
  (he:starEach (e::es) X.env=(false,eval e X.env)::starEach es X.env:=by rfl) (hpl:(backTo pos (starEach es X.env)).any (·.1)=false:=by rfl):PE X (.Call (.Name x p) (e::es) [] pos) (JL r t):=by
 intro pins s σ H Q I h;refine wpAny_Call_Name_kw (jH I hg hm hv ?_ hn hdb);exact PyProof.Rows.callWith_builtin1 (cA (ha pos pins s σ H _ I h) λus s1 ⟨vs,H1,I1,r1,q1⟩=>hc pins s1 σ H1 vs us Q I1 r1 q1) he hpl
theorem qS(hc:cJ X (.type T) r)(hg:Gl X x)(hm:X.mg x=none)(hv:bootBuiltins x=some (.type T))(ha:PA X (e::es) t)(hn:x ≠ "__name__" := by decide)(hdb:(x == ("__debug__":Str))=false:=by decide)
  (he:starEach (e::es) X.env=(false,eval e X.env)::starEach es X.env:=by rfl) (hpl:(backTo pos (starEach es X.env)).any (·.1)=false:=by rfl):PE X (.Call (.Name x p) (e::es) [] pos) (JL r t):=by
 intro pins s σ H Q I h;refine wpAny_Call_Name_kw (jH I hg hm hv ?_ hn hdb);exact PyProof.Rows.callWith_type1 (cA (ha pos pins s σ H _ I h) λus s1 ⟨vs,H1,I1,r1,q1⟩=>hc pins s1 σ H1 vs us Q I1 r1 q1) he hpl
end
end L2
namespace HT
open PySem PyProof.Rows
section
open PySem.SeqAt
open PySem.AutoSeq1 (wpAny_loadPart')
open PySem.MeetsSeq PySem.MeetsSeq2 PySem.MeetsSeq3
end
section
variable{prog:Va}{w:Vb}{A:Vf}{E:Q7->Q8->Prop}{s:Q8}
theorem cat_tup{t b:Q9}{vs ws:List Q7}{Q:Q7->Q8->Prop}(ht:IsTup s.heap t vs.toArray)(hb:IsTup s.heap b ws.toArray)(hv:vs≠[])
  (h1:ws=[]->Q (.ref t) s) (h2:ws≠[]->Q (.ref s.heap.objs.size) {s with heap:=s.heap.push {cls:=.type "tuple",data:=.seq (vs++ws).toArray}})
  (hsz:vs.length+ws.length<=sizeLine):wpAny (model prog w) A (binaryOp .Add (.ref t) (.ref b)) Q E s:=by
 obtain⟨⟨cls,dd,data,sl⟩,ho,hc,n,hd⟩:=id ht;obtain⟨⟨cls2,dd2,data2,sl2⟩,ho2,hc2,n2,hd2⟩:=id hb;simp only at hc hd hc2 hd2;subst hc hd hc2 hd2;have e:vs.toArray++ws.toArray=(vs++ws).toArray:=by simp
 by_cases hw:ws=[]
 ·exact concat_meets ⟨_,ho,rfl⟩ ⟨_,ho2,rfl⟩ noFill_tuple_add seq_tuple_add PySem.F.slot_tuple_add PySem.F.entry_tuple_add (PySem.F.args_tuple_add_2 _ _)
   (tuple_addW1 t b vs.toArray ws.toArray n n2 dd dd2 sl sl2 (by simpa using hv) (by simp[hw])) ⟨ho,ho2,h1 hw⟩
 ·refine concat_meets ⟨_,ho,rfl⟩ ⟨_,ho2,rfl⟩ noFill_tuple_add seq_tuple_add PySem.F.slot_tuple_add PySem.F.entry_tuple_add (PySem.F.args_tuple_add_2 _ _)
   (tuple_addW2 t b vs.toArray ws.toArray n n2 dd dd2 sl sl2 (by simpa using hv) (by simpa using hw) (by rw[size_toArray,size_toArray];exact hsz)) ⟨ho,ho2,?_⟩
  rw[e];exact h2 hw
noncomputable def sIx(n d:Nat):Option Int->Nat
 |none=>d
 |some v=>if v<0 then(v+(n:Int)).toNat else min v.toNat n
theorem Fj(n d:Nat)(hd:d<=n)(o:Option Int):sIx n d o<=n:=by
 cases o with
 |none=>exact hd
 |some v=>
  show(if v<0 then(v+(n:Int)).toNat else min v.toNat n)<=n;by_cases hv:v<0
  ·rw[if_pos hv];omega
  ·rw[if_neg hv];exact Nat.min_le_right _ _
theorem clip0(i:Int)(n:Nat):max 0 (min (if i<0 then i+(n:Int) else i) (n:Int))=(((if i<0 then(i+(n:Int)).toNat else min i.toNat n):Nat):Int):=by
 by_cases h:i<0
 ·rw[if_pos h,if_pos h,Int.ofNat_toNat,Int.min_eq_left (by omega),Int.max_comm]
 ·rw[if_neg h,if_neg h];obtain⟨k,rfl⟩:=Int.eq_ofNat_of_zero_le (Int.not_lt.mp h);show max 0 (min (k:Int) n)=((min k n:Nat):Int);by_cases c:k<=n
  ·rw[Nat.min_eq_left c,Int.min_eq_left (Int.ofNat_le.mpr c)];exact Int.max_eq_right (Int.natCast_nonneg _)
  ·rw[Nat.min_eq_right (Nat.le_of_not_le c),Int.min_eq_right (Int.ofNat_le.mpr (Nat.le_of_not_le c))];exact Int.max_eq_right (Int.natCast_nonneg _)
theorem yZ(v:Int)(n d:Nat):(if v<0 then max (v+(n:Int)) 0 else min v (n:Int))=((sIx n d (some v):Nat):Int):=by
 rw[show sIx n d (some v)=if v<0 then(v+(n:Int)).toNat else min v.toNat n from rfl,<-clip0];by_cases h:v<0
 ·rw[if_pos h,if_pos h,Int.min_eq_left (by omega),Int.max_comm]
 ·rw[if_neg h,if_neg h,Int.max_eq_right (by omega)]
theorem yb(lo hi:Option Int)(n:Nat):Builtin.Slice.sliceAdjust lo hi 1 (n:Int)=(((sIx n 0 lo:Nat):Int),((sIx n n hi:Nat):Int)):=by
 have h1:¬((1:Int)<0):=by omega
 unfold Builtin.Slice.sliceAdjust;simp only[h1,if_false];refine Prod.ext ?_ ?_
 ·cases lo with
  |none=>rfl
  |some v=>exact yZ v n 0
 ·cases hi with
  |none=>rfl
  |some v=>exact yZ v n n
theorem wZ(i j:Nat):Builtin.Slice.slicePlaces (i:Int) (j:Int) 1=j - i:=by
 unfold Builtin.Slice.slicePlaces;have h1:(1:Int) > 0:=by omega
 simp only[h1,if_true,Int.ediv_one];split <;> omega
theorem oH{v:Q7}{o:Option Int}{Q:Option Int->Q8->Prop}(p:IsPart v o)(h:Q o s):wpAny (model prog w) A (Builtin.Slice.slicePartIndex v) Q E s:=by
 cases p with
 |none=>exact slicePart_none h
 |int i t=>exact slicePart_int h
theorem mM{sl:Q9}{vl vu:Q7}{lo hi:Option Int}{n:Nat}{Q:Int×Int×Nat->Q8->Prop}(hs:s.heap.IsSliceOf sl vl vu .none)(pl:IsPart vl lo)(pu:IsPart vu hi)
  (h:Q (((sIx n 0 lo:Nat):Int),1,sIx n n hi - sIx n 0 lo) s):wpAny (model prog w) A (Builtin.Slice.sliceApplied (.ref sl) (pure (n:Int))) Q E s:=by
 obtain⟨os,hos,hcs,hds⟩:=id hs;unfold Builtin.Slice.sliceApplied Builtin.Slice.sliceFields;refine wpAny_bind (wpAny_bind (wpAny_field hos hds (x:=vl) rfl (wpAny_bind (wpAny_field hos hds (x:=vu) rfl (wpAny_bind (wpAny_field hos hds (x:=.none) rfl (wpAny_pure ?_)))))));refine wpAny_bind (slicePart_none ?_);show wpAny _ _ (if((1:Int) == 0)=true then _ else _) _ _ s;rw[if_neg (by decide)]
 refine wpAny_bind (oH pl (wpAny_bind (oH pu (wpAny_bind (wpAny_pure ?_)))));show wpAny _ _ (match Builtin.Slice.sliceAdjust lo hi 1 (n:Int) with|(lo,hi)=>pure (lo,(1:Int),Builtin.Slice.slicePlaces lo hi 1)) _ _ s
 rw[yb lo hi n];show wpAny _ _ (pure (((sIx n 0 lo:Nat):Int),(1:Int),Builtin.Slice.slicePlaces ((sIx n 0 lo:Nat):Int) ((sIx n n hi:Nat):Int) 1)) _ _ s;rw[wZ];exact wpAny_pure h
theorem Bw(xs:Array Q7)(i k:Nat):((List.range k).filterMap λ(m:Nat)=>xs[((i:Int)+(m:Int) * 1).toNat]?).toArray=((xs.toList.drop i).take k).toArray:=by
 have e:(λ(m:Nat)=>xs[((i:Int)+(m:Int) * 1).toNat]?)=λm=>xs[i+m]?:=by
  funext m;have:((i:Int)+(m:Int) * 1).toNat=i+m:=by omega
  rw[this]
 rw[e];have:=pick_run xs i k;rw[List.filterMap_map] at this;have e2:((λx=>xs[x]?) ∘ λx=>i+x)=λm=>xs[i+m]?:=rfl;rw[e2] at this;rw[this]
theorem getItem_tuple_cut{t sl:Q9}{items:Array Q7}{vl vu:Q7}{lo hi:Option Int}{Q:Q7->Q8->Prop}(ht:IsTup s.heap t items)(hs:s.heap.IsSliceOf sl vl vu .none)(pl:IsPart vl lo)(pu:IsPart vu hi)
  (hw:¬(sIx items.size 0 lo=0/\sIx items.size items.size hi=items.size))
  (h:Q (.ref s.heap.objs.size) {s with heap:=s.heap.push {cls:=.type "tuple",data:=.seq ((items.toList.drop (sIx items.size 0 lo)).take (sIx items.size items.size hi - sIx items.size 0 lo)).toArray}})
  (hsz:items.size<=sizeLine):wpAny (model prog w) A (getItem (.ref t) (.ref sl)) Q E s:=by
 have htake:sizeOk (.seq ((items.toList.drop (sIx items.size 0 lo)).take (sIx items.size items.size hi - sIx items.size 0 lo)).toArray):=by
  show((items.toList.drop (sIx items.size 0 lo)).take (sIx items.size items.size hi - sIx items.size 0 lo)).toArray.size<=sizeLine;rw[size_toArray,length_take,length_drop,length_toList];omega
 have hj:sIx items.size items.size hi<=items.size:=Fj _ _ (le_refl _) hi;obtain⟨os,hos,hcs,hds⟩:=id hs;have hTs:s.TypeIs (.ref sl) "slice" := ⟨os,hos,hcs⟩;unfold getItem
 try with_reducible refine wpAny_holding ?_
 first|refine wpAny_bind (wpAny_pure ?_)|skip
 refine wpAny_bind (wpAny_sequenceKey ht.typeIs (by decide) ?_)
 refine wpAny_bind (wpAny_callSpecial?_slot (name:=Str.ofString "__getitem__") ht.typeIs PyProof.Rows.slot_tuple_getitem
  (wpAny_call_entry PyProof.Rows.slot_tuple_getitem ht.typeIs entry_tuple_getitem ?_ (args_tuple_getitem _ _)))
 show wpAny _ _ (Builtin.Tuple.tupleItemsOf (.ref t) >>= _) _ _ s;refine wpAny_bind (tupleItemsOf_ ht ?_);refine wpAny_bind (wpAny_typeOf hTs ?_);rw[if_pos (by decide)]
 refine wpAny_bind (mM hs pl pu ?_);have hno:¬((((sIx items.size 0 lo:Nat):Int) == 0 && (1:Int) == 1 && (sIx items.size items.size hi - sIx items.size 0 lo) == items.size)=true):=by
  intro q;rw[Bool.and_eq_true,Bool.and_eq_true] at q;have q1:((sIx items.size 0 lo:Nat):Int)=0:=eq_of_beq q.1.1;have q2:sIx items.size items.size hi - sIx items.size 0 lo=items.size:=eq_of_beq q.2;exact hw ⟨by omega,by omega⟩
 show wpAny _ _ (if(((sIx items.size 0 lo:Nat):Int) == 0 && (1:Int) == 1 && (sIx items.size items.size hi - sIx items.size 0 lo) == items.size)=true then _ else _) _ _ s;rw[if_neg hno,Bw]
 first
  |exact wpAny_bind (m:=Builtin.Tuple.tupleExact _) (wpAny_newObj_type (wpAny_pure ⟨_,rfl,wpAny_pure h⟩) htake)
  |exact wpAny_bind (m:=Builtin.Tuple.tupleExact _) (wpAny_newObj_type (wpAny_bind (wpAny_pure (wpAny_pure ⟨_,rfl,wpAny_pure h⟩))) htake)
  |exact wpAny_bind (wpAny_bind (m:=Builtin.Tuple.tupleExact _) (wpAny_newObj_type (wpAny_pure (wpAny_pure ⟨_,rfl,wpAny_pure h⟩)) htake))
  |exact wpAny_bind (wpAny_bind (m:=Builtin.Tuple.tupleExact _) (wpAny_newObj_type (wpAny_pure ⟨_,rfl,wpAny_pure h⟩) htake))
end
end HT
namespace L2
open PySem PySem.Spec PyProof.Rows
abbrev TO:=St->Hp->(Option Int->Hp->Prop)->Prop
def PO(X:Cx)(e:Option Vd)(t:TO):Prop:=
 ∀(pins:List (Q9×Obj))(s:Q8)(σ:St)(H:Hp)(Q:Option Int->Hp->Prop),aD X pins σ H s->t σ H Q->
  wpAny (model X.prog X.w) X.A (evalPart e X.env) (λu s'=>∃o H',aD X pins σ H' s'/\IsPart u o/\Q o H') X.xe s
def yh:TO:=λ_ H Q=>Q none H
def EI(t:TE):TO:=λσ H Q=>t σ H λx H1=>∃i,x=.int i/\Q (some i) H1
theorem xC{ns:List Int}:∀{us:List Q7},Vals (ns.map V.int) us->IntsAre us ns:=by
 induction ns with
 |nil=>intro us r;rw[map_nil] at r;cases r;exact .nil
 |cons n ns ih=>
  intro us r;rw[map_cons] at r;cases r with
  |cons r1 r2=>
   obtain⟨t,e⟩:=r1;subst e;exact .cons n t (ih r2)
section
variable{X:Cx}{e:Vd}{te:TE}{lo hi:Option Vd}{tl th:TO}{pos p2:Pos}
theorem Dr:PO X none yh:=by
 intro pins s σ H Q I h;rw[evalPart_none];exact wpAny_pure ⟨none,H,I,.none,h⟩
theorem Dq(h:PE X e te):PO X (some e) (EI te):=by
 intro pins s σ H Q I hw;rw[evalPart_some];refine cA (h pins s σ H _ I hw) λu s1 ⟨x,H1,I1,r1,q1⟩=>?_;obtain⟨i,rfl,q⟩:=q1;obtain⟨t,rfl⟩:=r1;exact⟨some i,H1,I1,.int i t,q⟩
def Il(X:Cx)(r:V->Option Int->Option Int->Hp->VK->Prop):Prop:=
 ∀(pins:List (Q9×Obj))(s:Q8)(σ:St)(H:Hp)(x:V)(v vl vu:Q7)(lo hi:Option Int)(sl:Q9)(Q:VK),aD X pins σ H s->RelV x v->s.heap.IsSliceOf sl vl vu .none->IsPart vl lo->IsPart vu hi->r x lo hi H Q->
  ∃T id,typeLookup (.type T) "__getitem__" = pure (some (.builtin id))/\s.TypeIs v T/\wpAny (model X.prog X.w) X.A (getItem v (.ref sl)) (EP X pins σ Q) X.xe s
def K0(r:V->Option Int->Option Int->Hp->VK->Prop)(te:TE)(tl th:TO):TE:=λσ H Q=>te σ H λx H1=>tl σ H1 λl H2=>th σ H2 λu H3=>r x l u H3 Q
theorem v7{r:V->Option Int->Option Int->Hp->VK->Prop}(hr:Il X r)(he:PE X e te)(hl:PO X lo tl)(hu:PO X hi th):PE X (.Subscript e (.Slice lo hi none p2) pos) (K0 r te tl th):=by
 intro pins s σ H Q I h;refine Subscript_ (cA (he pins s σ H _ I h) λv s1 ⟨x,H1,I1,r1,q1⟩=>?_);refine wpAny_Slice (cA (hl pins s1 σ H1 _ I1 q1) λvl s2 ⟨l,H2,I2,pl,q2⟩=>cA (hu pins s2 σ H2 _ I2 q2) λvu s3 ⟨u,H3,I3,pu,q3⟩=>?_);rw[evalPart_none];refine wpAny_pure ?_;have I4:aD X pins σ H3 {s3 with heap:=s3.heap.push {cls:=.type "slice",data:=.fields #[vl,vu,.none]}}:=I3.kept (t':=s3.toks) λb ob q=>get?_push_of_some _ q;obtain⟨T,id,hT,ht,hg⟩:=hr pins {s3 with heap:=s3.heap.push {cls:=.type "slice",data:=.fields #[vl,vu,.none]}} σ H3 x v vl vu l u s3.heap.objs.size Q I4 r1 (Heap.IsSliceOf.new ..) pl pu q3;show wpAny (model X.prog X.w) X.A (subscriptTail e (.Slice lo hi none p2) v (.ref s3.heap.objs.size)) (EP X pins σ Q) X.xe {s3 with heap:=s3.heap.push {cls:=.type "slice",data:=.fields #[vl,vu,.none]}};exact tail_any (ops:=[.ref s3.heap.objs.size,v]) ht hT hg (by with_unfolding_all rfl)
def wa(xs:List V)(lo hi:Option Int):List V:=(xs.drop (HT.sIx xs.length 0 lo)).take (HT.sIx xs.length xs.length hi - HT.sIx xs.length 0 lo)
theorem nK(xs:List V)(lo hi:Option Int):(wa xs lo hi).length<=xs.length:=by
 unfold wa;rw[length_take,length_drop];exact le_trans (Nat.min_le_right _ _) (Nat.sub_le _ _)
def Jc(K:Frag):V->Option Int->Option Int->Hp->VK->Prop:=λx lo hi H Q=>∃a xs,x=.ref a/\jS K H a xs/\
 ¬(HT.sIx xs.length 0 lo=0/\HT.sIx xs.length xs.length hi=xs.length)/\∀p,H p=none->Q (.ref p) (bW H p (.tup (wa xs lo hi)))
theorem Fd:Il X (Jc X.K):=by
 intro pins s σ H x v vl vu lo hi sl Q I rx hs pl pu h;obtain⟨a,xs,rfl,hx,hw,q⟩:=h;cases rx;obtain⟨its,r,ht,hz⟩:=I.tuple hx;have hlen:its.toArray.size=xs.length:=by rw[size_toArray];exact r.length.symm
 refine⟨"tuple",_,PyProof.Rows.slot_tuple_getitem.lookup,ht.typeIs,?_⟩;refine HT.getItem_tuple_cut ht hs pl pu (by rw[hlen];exact hw) ?_ (by rw[hlen];exact hz)
 rw[hlen];refine⟨.ref s.heap.objs.size,_,I.laid (t':=s.toks) (o:=.tup (wa xs lo hi)) (λb ob q=>get?_push_of_some _ q) (le_refl _) ?_,rfl,q _ (I.hok.fresh (le_refl _))⟩;exact⟨le_trans (nK xs lo hi) hz,_,(r.drop (HT.sIx xs.length 0 lo)).take (HT.sIx xs.length xs.length hi - HT.sIx xs.length 0 lo),IsTup.new _ _⟩
def Hr(K:Frag):R2:=λx y H Q=>∃a b xs ys,x=.ref a/\y=.ref b/\jS K H a xs/\jS K H b ys/\xs≠[]/\xs.length+ys.length<=sizeLine/\
 (ys=[]->Q (.ref a) H)/\(ys≠[]->∀p,H p=none->Q (.ref p) (bW H p (.tup (xs++ys))))
theorem Vals.nil_iff{xs:List V}{us:List Q7}(r:Vals xs us):us=[]↔xs=[]:=by
 cases r with
 |_=>simp
theorem DI:gd X (binaryOp .Add) (Hr X.K):=by
 intro pins s σ H x y v u Q I rx ry h;obtain⟨a,b,xs,ys,rfl,rfl,ha,hb,hx,hz,q1,q2⟩:=h;cases rx;cases ry;obtain⟨its,r1,p1,_⟩:=I.tuple ha;obtain⟨its2,r2,p2,_⟩:=I.tuple hb;refine HT.cat_tup p1 p2 (λz=>hx (r1.nil_iff.mp z)) (λz=>⟨.ref a,H,I,rfl,q1 (r2.nil_iff.mp z)⟩) (λz=>?_) (by rw[<-r1.length,<-r2.length];exact hz)
 refine⟨.ref s.heap.objs.size,_,I.laid (t':=s.toks) (o:=.tup (xs++ys)) (λb ob q=>get?_push_of_some _ q) (le_refl _) ?_,rfl,q2 (λw=>z (r2.nil_iff.mpr w)) _ (I.hok.fresh (le_refl _))⟩;exact⟨by rw[length_append];exact hz,_,r1.append r2,IsTup.new _ _⟩
end
def DW(n:Nat)(i:Int):Option Nat:=if 0<=i then(if i<n then some i.toNat else none) else if -(n:Int)<=i then some (i+n).toNat else none
def EB{α:Type}(xs:List α)(i:Int):Option α:=(DW xs.length i).bind λj=>xs[j]?
theorem yL{n:Nat}{i:Int}{j:Nat}(h:DW n i=some j):seqIndex? i n=some j/\j<n/\-(n:Int)<=i/\i<n:=by
 unfold DW at h;by_cases h0:0<=i
 ·rw[if_pos h0] at h;by_cases h1:i<n
  ·rw[if_pos h1] at h;have e:i.toNat=j:=Option.some.inj h;exact⟨by rw[seqIndex_of h0 h1,e],by omega,by omega,h1⟩
  ·rw[if_neg h1] at h;cases h
 ·rw[if_neg h0] at h;by_cases h1:-(n:Int)<=i
  ·rw[if_pos h1] at h;have e:(i+n).toNat=j:=Option.some.inj h;exact⟨by rw[seqIndex_neg (by omega) h1,e],by omega,h1,by omega⟩
  ·rw[if_neg h1] at h;cases h
theorem u6{α:Type}{xs:List α}{i:Int}{v:α}(h:EB xs i=some v):∃j,seqIndex? i xs.length=some j/\xs[j]?=some v/\j<xs.length/\-(xs.length:Int)<=i/\i<xs.length:=by
 unfold EB at h;cases e:DW xs.length i with
 |none=>rw[e] at h;cases h
 |some j=>
  rw[e] at h;obtain⟨h1,h2,h3,h4⟩:=yL e;exact⟨j,h1,h,h2,h3,h4⟩
def ua(b:Vd):Prop:=∀o i,subscripted b false o i=operate [o,i] (getItem o i)
def GX(X:Cx)(r:R2):Prop:=
 ∀(value slice:Vd)(pins:List (Q9×Obj))(s:Q8)(σ:St)(H:Hp)(x y:V)(v u:Q7)(Q:VK),aD X pins σ H s->RelV x v->RelV y u->r x y H Q->
  subscripted slice false v u=operate [v,u] (getItem v u)->wpAny (model X.prog X.w) X.A (subscriptTail value slice v u) (EP X pins σ Q) X.xe s
def GL(X:Cx)(id:Vg)(r:V->List V->Hp->VK->Prop):Prop:=
 ∀(pins:List (Q9×Obj))(s:Q8)(σ:St)(H:Hp)(x:V)(xs:List V)(v:Q7)(us:List Q7)(Q:VK),aD X pins σ H s->RelV x v->Vals xs us->r x xs H Q->
  wpAny (model X.prog X.w) X.A (call (.builtin id) (v::us)) (EP X pins σ Q) X.xe s
section
variable{X:Cx}{a b:Vd}{ta tb:TE}{pos:Pos}
theorem EN{r:R2}(hr:GX X r)(ha:PE X a ta)(hb:PE X b tb)(hs:ua b):PE X (.Subscript a b pos) (Hb r ta tb):=by
 intro pins s σ H Q I h;exact Subscript_ (GC ha hb I h λv u s2 x y H2 I2 rx ry q=>hr a b pins s2 σ H2 x y v u Q I2 rx ry q (hs _ _))
def Jh(K:Frag):R2:=λx y H Q=>∃p xs i v,x=.ref p/\y=.int i/\fJ K H p xs/\EB xs i=some v/\Q v H
def Jf(K:Frag):R2:=λx y H Q=>∃p xs i v,x=.ref p/\y=.int i/\jS K H p xs/\EB xs i=some v/\Q v H
def Jg:R2:=λx y H Q=>∃z i c,x=.str z/\y=.int i/\z.length<=sizeLine/\EB z.cps.toList i=some c/\Q (.str ⟨#[c]⟩) H
theorem yK:GX X (Jh X.K):=by
 intro value slice pins s σ H x y v u Q I rx ry h hs;obtain⟨p,xs,i,z,rfl,rfl,hq,he,q⟩:=h;cases rx;obtain⟨t,rfl⟩:=ry;obtain⟨its,r,pl,hz⟩:=I.list hq;obtain⟨j,h1,h2,h3,h4,h5⟩:=u6 he;obtain⟨w,ew,rw'⟩:=r.get h2;have hl:=r.length;have hn:=mY;have fin:EP X pins σ Q w s:=⟨z,H,I,rw',q⟩;by_cases h0:0<=i
 ·have hj:i.toNat=j:=by
   rw[seqIndex_of h0 h5] at h1;exact Option.some.inj h1
  exact item_listR pl.isList h0 (by omega) (by rw[hj];simpa using ew) fin hs
 ·have hj:(i+(its.toArray.size:Int)).toNat=j:=by
   rw[seqIndex_neg (by omega) h4] at h1
   rw[size_toArray,<-hl];exact Option.some.inj h1
  exact subscriptTail_builtinR (x:=w) pl.isList.typeIs slot_list_getitem.lookup
   (wpAny_getItem_list_neg (Q:=λr s'=>r=w/\EP X pins σ Q r s') pl.isList (by omega) (by rw[size_toArray] <;> omega) (by omega) (by rw[hj];simpa using ew) ⟨rfl,fin⟩) hs
theorem ix_tup:GX X (Jf X.K):=by
 intro value slice pins s σ H x y v u Q I rx ry h hs;obtain⟨p,xs,i,z,rfl,rfl,hq,he,q⟩:=h;cases rx;obtain⟨t,rfl⟩:=ry;obtain⟨its,r,pl,hz⟩:=I.tuple hq;obtain⟨j,h1,h2,h3,h4,h5⟩:=u6 he;obtain⟨w,ew,rw'⟩:=r.get h2;have hl:=r.length;have hn:=mY;have fin:EP X pins σ Q w s:=⟨z,H,I,rw',q⟩;exact subscriptTail_builtinR (x:=w) pl.typeIs slot_tuple_getitem.lookup
  (getItem_tuple (j:=j) (Q:=λr s'=>r=w/\EP X pins σ Q r s') pl (by omega) (by omega) (by rw[size_toArray,<-hl];exact h1) (by simpa using ew) ⟨rfl,fin⟩) hs
theorem Gh:GX X Jg:=by
 intro value slice pins s σ H x y v u Q I rx ry h hs;obtain⟨z,i,c,rfl,rfl,hz,he,q⟩:=h;obtain⟨t,rfl⟩:=rx;obtain⟨t',rfl⟩:=ry;obtain⟨j,h1,h2,h3,h4,h5⟩:=u6 he;have hl:z.cps.toList.length=z.length:=by simp[Str.length]
 rw[hl] at h1 h4 h5;have hn:=mY;exact tail_any (typeIs_str s z t) slot_str_getitem.lookup (getItem_str (c:=c) (by
  have e1:decide (i < -(2 ^ 63:Int))=false:=decide_eq_false (by omega)
  have e2:decide (i ≥ 2 ^ 63)=false:=decide_eq_false (by omega)
  rw[e1,e2,Bool.or_false]) (by rw[h1];simpa using h2) ⟨.str ⟨#[c]⟩,H,I.tok _,⟨_,rfl⟩,q⟩) hs
theorem xm(its:List Q7)(n j:Nat)(u:Q7):Obj.mapSeq (·.setIfInBounds j u) {cls:=.type "list",data:=.seq its.toArray n}={cls:=.type "list",data:=.seq (its.set j u).toArray n}:=by
 simp[Obj.mapSeq]
theorem aD.lst{pins:List (Q9×Obj)}{σ:St}{H:Hp}{s:Q8}{p:Q9}{xs:List V}(I:aD X pins σ H s)(h:H p=some (.lst xs)):
  ∃(its:List Q7)(n:Nat),Vals xs its/\s.heap.get? p=some {cls:=.type "list",data:=.seq its.toArray n}/\xs.length<=sizeLine:=by
 obtain⟨z,its,n,r,e⟩:=I.hok p _ h;exact⟨its,n,r,e,z⟩
theorem aD.lstUpd{pins:List (Q9×Obj)}{σ:St}{H:Hp}{s:Q8}{p:Q9}{xs ys:List V}{its its':List Q7}{n n':Nat}{f:Obj->Obj}(I:aD X pins σ H s)(h:H p=some (.lst xs))
  (ho:s.heap.get? p=some {cls:=.type "list",data:=.seq its.toArray n}) (hf:f {cls:=.type "list",data:=.seq its.toArray n}={cls:=.type "list",data:=.seq its'.toArray n'}) (r:Vals ys its') (hz:ys.length<=sizeLine) (t:Nat):
  aD X pins σ (bW H p (.lst ys)) {s with heap:=s.heap.update p f,toks:=t}:=by
 have e:(s.heap.update p f).get? p=some {cls:=.type "list",data:=.seq its'.toArray n'}:=by
  rw[Heap.get?_update_self f ho (by rw[hf] <;> rfl),hf]
 refine I.write (x:=p) (e:=p) (by rw[h];trivial) (.inl rfl) (λb u hb q=>(Heap.get?_update_other _ _ (Ne.symm hb)).trans q) ⟨_,e⟩ ?_
 exact⟨hz,its',n',r,e⟩
def Hq:V->V->V->Hp->(Hp->Prop)->Prop:=λo i v H Q=>∃p xs k j,o=.ref p/\i=.int k/\H p=some (.lst xs)/\DW xs.length k=some j/\Q (bW H p (.lst (xs.set j v)))
theorem Bc:Im X Hq:=by
 intro pins s σ H o i v ov iv u Q I ro ri rv h;obtain⟨p,xs,k,j,rfl,rfl,hp,hj,q⟩:=h;cases ro;obtain⟨t,rfl⟩:=ri;obtain⟨its,n,r,ho,hz⟩:=I.lst hp;obtain⟨h1,h2,h3,h4⟩:=yL hj;have hl:=r.length;have hn:=mY;have I':aD X pins σ (bW H p (.lst (xs.set j v))) {s with heap:=s.heap.update p (Obj.mapSeq (·.setIfInBounds j u))}:=
  I.lstUpd hp ho (xm its n j u) (r.set rv j) (by rw[length_set];exact hz) s.toks
 by_cases h0:0<=k
 ·have hk:k.toNat=j:=by
   rw[seqIndex_of h0 h4] at h1;exact Option.some.inj h1
  exact PySem.W.ki_setAt ho h0 (by omega) (by rw[size_toArray,<-hl];exact h4) (by rw[hk];exact⟨_,I',q⟩)
 ·have hk:(k+(its.toArray.size:Int)).toNat=j:=by
   rw[seqIndex_neg (by omega) h3] at h1
   rw[size_toArray,<-hl];exact Option.some.inj h1
  exact PySem.W.ki_setBack ho (by omega) (by rw[size_toArray,<-hl];exact h3) (by omega) (by rw[hk];exact⟨_,I',q⟩)
theorem sy(lo hi:Option Int)(n:Nat):(sliceBounds lo hi none n).1=((HT.sIx n 0 lo:Nat):Int)/\(sliceBounds lo hi none n).2.1=((HT.sIx n n hi:Nat):Int)/\(sliceBounds lo hi none n).2.2=1:=by
 refine⟨?_,?_,rfl⟩
 ·cases lo with
  |none=>rfl
  |some i=>exact HT.clip0 i n
 ·cases hi with
  |none=>rfl
  |some i=>exact HT.clip0 i n
theorem ql(its:List Q7)(lo hi:Option Int):slicePick its.toArray lo hi none=((its.drop (HT.sIx its.length 0 lo)).take (HT.sIx its.length its.length hi - HT.sIx its.length 0 lo)).toArray:=by
 obtain⟨h1,h2,h3⟩:=sy lo hi its.toArray.size;unfold slicePick;rw[h1,h2,h3];simp only[sliceRange_one,pick_run,size_toArray] <;> rfl
def Jd(K:Frag):V->Option Int->Option Int->Hp->VK->Prop:=λx lo hi H Q=>∃a xs,x=.ref a/\fJ K H a xs/\∀p,H p=none->Q (.ref p) (bW H p (.lst (wa xs lo hi)))
theorem D7:Il X (Jd X.K):=by
 intro pins s σ H x v vl vu lo hi sl Q I rx hs pl pu h;obtain⟨a,xs,rfl,hx,q⟩:=h;cases rx;obtain⟨its,r,ht,hz⟩:=I.list hx;have hlen:=r.length;refine⟨"list",_,slot_list_getitem.lookup,ht.isList.typeIs,?_⟩;refine wpAny_getItem_list_slice ht.isList hs pl pu .none (by simp) ?_ (by rw[size_toArray] <;> omega)
 rw[ql,<-hlen];refine⟨.ref s.heap.objs.size,_,I.laid (t':=s.toks) (o:=.lst (wa xs lo hi)) (λb ob q=>get?_push_of_some _ q) (le_refl _) ?_,rfl,q _ (I.hok.fresh (le_refl _))⟩;exact⟨le_trans (nK xs lo hi) hz,_,0,(r.drop (HT.sIx xs.length 0 lo)).take (HT.sIx xs.length xs.length hi - HT.sIx xs.length 0 lo),get?_push_size _ rfl⟩
def kI:V->Bool
 |.non=>true
 |.bl _=>true
 |.int _=>true
 |.str _=>true
 |_=>false
def CP:V->V->Bool
 |.non,.non=>true
 |.bl a,.bl b=>a == b
 |.bl a,.int b=>(if a then 1 else 0) == b
 |.int a,.bl b=>a == (if b then 1 else 0)
 |.int a,.int b=>a == b
 |.str a,.str b=>a == b
 |_,_=>false
theorem Gv{A:Vf}{s:Q8}{y x:V}{u v:Q7}(ry:RelV y u)(rx:RelV x v)(fy:kI y=true)(fx:kI x=true):SeqAt.EqAt A s u v (CP y x):=by
 cases y with
 |non=>
  cases ry;cases x with
  |non=>cases rx;exact SeqAt.EqAt.same _
  |bl b=>cases rx;exact SeqAt.EqAt.none_bool b
  |int b=>obtain⟨t,rfl⟩:=rx;exact SeqAt.EqAt.none_int b t
  |str b=>obtain⟨t,rfl⟩:=rx;exact SeqAt.EqAt.none_str b t
  |_=>exact absurd (show false=true from fx) Bool.false_ne_true
 |bl a=>
  cases ry;cases x with
  |non=>cases rx;exact SeqAt.EqAt.bool_none a
  |bl b=>cases rx;exact SeqAt.EqAt.bool_bool a b
  |int b=>obtain⟨t,rfl⟩:=rx;exact SeqAt.EqAt.bool_int a b t
  |str b=>obtain⟨t,rfl⟩:=rx;exact SeqAt.EqAt.bool_str a b t
  |_=>exact absurd (show false=true from fx) Bool.false_ne_true
 |int a=>
  obtain⟨t',rfl⟩:=ry;cases x with
  |non=>cases rx;exact SeqAt.EqAt.int_none a t'
  |bl b=>cases rx;exact SeqAt.EqAt.int_bool a t' b
  |int b=>obtain⟨t,rfl⟩:=rx;exact SeqAt.EqAt.int_int a t' b t
  |str b=>obtain⟨t,rfl⟩:=rx;exact SeqAt.EqAt.int_str a t' b t
  |_=>exact absurd (show false=true from fx) Bool.false_ne_true
 |str a=>
  obtain⟨t',rfl⟩:=ry;cases x with
  |non=>cases rx;exact SeqAt.EqAt.str_none a t'
  |bl b=>cases rx;exact SeqAt.EqAt.str_bool a t' b
  |int b=>obtain⟨t,rfl⟩:=rx;exact SeqAt.EqAt.str_int a t' b t
  |str b=>obtain⟨t,rfl⟩:=rx;exact SeqAt.EqAt.str_str a t' b t
  |_=>exact absurd (show false=true from fx) Bool.false_ne_true
 |_=>exact absurd (show false=true from fy) Bool.false_ne_true
def xK(x:V)(u:Q7):Bool:=match u with
 |.none=>CP .non x
 |.bool b=>CP (.bl b) x
 |.int i _=>CP (.int i) x
 |.str z _=>CP (.str z) x
 |_=>false
theorem Cu{x y:V}{u:Q7}(r:RelV y u)(f:kI y=true):xK x u=CP y x:=by
 cases y with
 |non=>cases r;rfl
 |bl b=>cases r;rfl
 |int i=>obtain⟨t,rfl⟩:=r;rfl
 |str z=>obtain⟨t,rfl⟩:=r;rfl
 |_=>exact absurd (show false=true from f) Bool.false_ne_true
theorem mI{x:V}:∀{xs:List V}{us:List Q7},Vals xs us->xs.all kI=true->us.any (xK x)=xs.any λy=>CP y x
 |_,_,.nil,_=>rfl
 |y::xs,u::us,.cons r t,f=>by
  rw[List.all_cons,Bool.and_eq_true] at f;rw[List.any_cons,List.any_cons,Cu r f.1,mI t f.2]
theorem jE{A:Vf}{s:Q8}{x:V}{v:Q7}(rx:RelV x v)(fx:kI x=true):∀{xs:List V}{us:List Q7},Vals xs us->xs.all kI=true->∀u∈us,SeqAt.EqAt A s u v (xK x u)
 |_,_,.nil,_=>λu hu=>by cases hu
 |y::xs,u::us,.cons r t,f=>λu' hu=>by
  rw[List.all_cons,Bool.and_eq_true] at f;rcases mem_cons.mp hu with rfl|hu
  ·rw[Cu r f.1];exact Gv r rx f.1 fx
  ·exact jE rx fx t f.2 u' hu
def IB(x:V)(xs:List V):Bool:=xs.any λy=>CP y x
def IA(K:Frag)(neg:Bool):R2:=λx y H Q=>∃p xs,y=.ref p/\(fJ K H p xs\/jS K H p xs)/\kI x=true/\xs.all kI=true/\Q (.bl (if neg then !IB x xs else IB x xs)) H
theorem zW:gd X (compareOp .In) (IA X.K false):=by
 intro pins s σ H x y v u Q I rx ry h;obtain⟨p,xs,rfl,hq,fx,fs,q⟩:=h;cases ry;rcases hq with hq|hq
 ·obtain⟨its,r,pl,hz⟩:=I.list hq;refine SeqAt.in_listAt (xK x) pl.isList (λw hw=>jE rx fx r fs w (by simpa using hw)) ⟨.bl _,H,I,rfl,?_⟩
  rw[show its.toArray.any (xK x)=its.any (xK x) by simp,mI r fs]
  exact q
 ·obtain⟨its,r,pl,hz⟩:=I.tuple hq;refine SeqAt.in_tupleAt (xK x) pl (λw hw=>jE rx fx r fs w (by simpa using hw)) ⟨.bl _,H,I,rfl,?_⟩
  rw[show its.toArray.any (xK x)=its.any (xK x) by simp,mI r fs]
  exact q
theorem sT:gd X (compareOp .NotIn) (IA X.K true):=by
 intro pins s σ H x y v u Q I rx ry h;obtain⟨p,xs,rfl,hq,fx,fs,q⟩:=h;cases ry;rcases hq with hq|hq
 ·obtain⟨its,r,pl,hz⟩:=I.list hq;refine SeqAt.notIn_listAt (xK x) pl.isList (λw hw=>jE rx fx r fs w (by simpa using hw)) ⟨.bl _,H,I,rfl,?_⟩
  rw[show its.toArray.any (xK x)=its.any (xK x) by simp,mI r fs]
  exact q
 ·obtain⟨its,r,pl,hz⟩:=I.tuple hq;refine SeqAt.notIn_tupleAt (xK x) pl (λw hw=>jE rx fx r fs w (by simpa using hw)) ⟨.bl _,H,I,rfl,?_⟩
  rw[show its.toArray.any (xK x)=its.any (xK x) by simp,mI r fs]
  exact q
theorem mE:cJ X (.builtin "len") (λxs H Q=>∃p ys,xs=[.ref p]/\(fJ X.K H p ys\/jS X.K H p ys)/\Q (.int ys.length) H):=by
 intro pins s σ H xs us Q I r h;obtain⟨p,ys,rfl,hq,q⟩:=h;obtain⟨u,rfl,rx⟩:=fK r;cases rx;have hn:=mY;rcases hq with hq|hq
 ·obtain⟨its,r',pl,hz⟩:=I.list hq;have hlen:=r'.length;exact Calls.call_len_list pl.isList (by simp only[size_toArray] <;> omega) ⟨.int ys.length,H,I.tok _,⟨s.toks+1,by rw[size_toArray,hlen]⟩,q⟩
 ·obtain⟨its,r',pl,hz⟩:=I.tuple hq;have hlen:=r'.length;exact len_tuple pl (by simp only[size_toArray] <;> omega) ⟨.int ys.length,H,I.tok _,⟨s.toks+1,by rw[size_toArray,hlen]⟩,q⟩
theorem tX:cJ X (.builtin "len") (λxs H Q=>∃z,xs=[.str z]/\z.length<=sizeLine/\Q (.int z.length) H):=by
 intro pins s σ H xs us Q I r h;obtain⟨z,rfl,hz,q⟩:=h;obtain⟨u,rfl,t,rfl⟩:=fK r;have hn:=mY;exact len_str (by omega) ⟨.int z.length,H,I.tok _,⟨_,rfl⟩,q⟩
theorem mD:cJ X (.type "list") (λxs H Q=>∃p ys,xs=[.ref p]/\(fJ X.K H p ys\/jS X.K H p ys)/\∀l,H l=none->Q (.ref l) (bW H l (.lst ys))):=by
 intro pins s σ H xs us Q I r h;obtain⟨p,ys,rfl,hq,q⟩:=h;obtain⟨u,rfl,rx⟩:=fK r;cases rx;have fin:∀(its:List Q7),Vals ys its->ys.length<=sizeLine->∀(h':Vc)(c':Nat),(∀b o',s.heap.get? b=some o'->h'.get? b=some o')->
   h'.get? s.heap.objs.size=some {cls:=.type "list",dict:=none,data:=.seq its.toArray c',slots:=#[]}->EP X pins σ Q (.ref s.heap.objs.size) {s with heap:=h'}:=λits r' hz h' c' kp e=>
  ⟨.ref s.heap.objs.size,_,I.laid (t':=s.toks) kp (le_refl _) (show bM X.prog X.w _ h' _ (.lst ys) from⟨hz,its,c',r',e⟩),rfl,q _ (I.hok.fresh (le_refl _))⟩
 rcases hq with hq|hq
 ·obtain⟨its,r',pl,hz⟩:=I.list hq;have hlen:=r'.length;obtain⟨o,ho,hc,n,hd⟩:=pl.isList;exact call_list_seq p (.inl rfl) ho hc hd (λh' c' kp e=>fin its r' hz h' c' kp e) (by simp only[size_toArray] <;> omega)
 ·obtain⟨its,r',pl,hz⟩:=I.tuple hq;have hlen:=r'.length;obtain⟨o,ho,hc,n,hd⟩:=pl;exact call_list_seq p (.inr rfl) ho hc hd (λh' c' kp e=>fin its r' hz h' c' kp e) (by simp only[size_toArray] <;> omega)
theorem kL:cJ X (.type "tuple") (λxs H Q=>∃p ys,xs=[.ref p]/\((fJ X.K H p ys/\∀l,H l=none->Q (.ref l) (bW H l (.tup ys)))\/(jS X.K H p ys/\Q (.ref p) H))):=by
 intro pins s σ H xs us Q I r h;obtain⟨p,ys,rfl,h⟩:=h;obtain⟨u,rfl,rx⟩:=fK r;cases rx;rcases h with⟨hq,q⟩|⟨hq,q⟩
 ·obtain⟨its,r',pl,hz⟩:=I.list hq;have hlen:=r'.length;refine call_tuple_list pl.isList (λh' kp=>?_) (by simp only[size_toArray] <;> omega)
  have I1:aD X pins σ H {s with heap:=h'}:=I.kept (t':=s.toks) kp;have I2:aD X pins σ (bW H h'.objs.size (.tup ys)) {s with heap:=h'.push {cls:=.type "tuple",data:=.seq its.toArray}}:=
   I1.laid (t':=s.toks) (λb o e=>get?_push_of_some _ e) (le_refl _) (show bM X.prog X.w _ _ _ (.tup ys) from⟨hz,its,r',IsTup.new _ _⟩)
  exact⟨.ref h'.objs.size,_,I2,rfl,q _ (I1.hok.fresh (le_refl _))⟩
 ·obtain⟨its,r',pl,hz⟩:=I.tuple hq;exact call_tuple_same pl ⟨.ref p,H,I,rfl,q⟩
def IJ(K:Frag)(T:Vg)(x:V)(H:Hp):Prop:=match x with
 |.str _=>T = "str"
 |.int _=>T = "int"
 |.ref p=>(T = "list" /\ ∃xs,fJ K H p xs)\/(T = "tuple" /\ ∃o,K.lookup p=some o/\o.cls=.type "tuple" /\ o.dict=none)\/
   (T = "dict" /\ ((∃kvs,H p=some (.dK kvs))\/∃kvs,H p=some (.dT kvs)))\/(T = "set" /\ ∃S n,H p=some (.set S n))
 |_=>False
theorem AV{pins:List (Q9×Obj)}{σ:St}{H:Hp}{s:Q8}{T:Vg}{x:V}{v:Q7}(I:aD X pins σ H s)(r:RelV x v)(ty:IJ X.K T x H):
  s.TypeIs v T/\∀a,v=.ref a->∃ob,s.heap.get? a=some ob/\ob.dict=none:=by
 cases x with
 |str z=>
  obtain⟨t,rfl⟩:=r;cases (show T = "str" from ty);exact⟨typeIs_str s z t,λ_ e=>nomatch e⟩
 |int i=>
  obtain⟨t,rfl⟩:=r;cases (show T = "int" from ty);exact⟨typeIs_int s i t,λ_ e=>nomatch e⟩
 |ref p=>
  cases r;rcases ty with⟨rfl,xs,hq⟩|⟨rfl,o,hk,hc,hd⟩|⟨rfl,hk⟩|⟨rfl,S,n,hk⟩
  ·obtain⟨its,_,pl,_⟩:=I.list hq;refine⟨pl.isList.typeIs,λa e=>?_⟩;cases e;obtain⟨o,n,e,c,hd,_⟩:=pl;exact⟨o,e,hd⟩
  ·refine⟨⟨o,I.kIn p o hk,hc⟩,λa e=>?_⟩;cases e;exact⟨o,I.kIn _ o hk,hd⟩
  ·have z:∃o,s.heap.get? p=some o/\o.ExactDict:=by
    rcases hk with⟨kvs,hk⟩|⟨kvs,hk⟩
    ·obtain⟨_,_,_,_,o,_,_,e,ex,_⟩:=I.hok p _ hk;exact⟨o,e,ex⟩
    ·obtain⟨_,_,_,_,o,_,_,e,ex,_⟩:=I.hok p _ hk;exact⟨o,e,ex⟩
   obtain⟨o,e,ex⟩:=z;refine⟨⟨o,e,ex.1⟩,λa e2=>?_⟩;cases e2;exact⟨o,e,ex.2.1⟩
  ·obtain⟨o,_,_,_,e,ex,_⟩:=I.hok p _ hk;refine⟨⟨o,e,ex.1⟩,λa e2=>?_⟩;cases e2;exact⟨o,e,ex.2.1⟩
 |_=>exact False.elim ty
def IY(K:Frag)(T:Vg)(r:V->List V->Hp->VK->Prop)(to:TE):TE:=λσ H Q=>to σ H λx H1=>IJ K T x H1/\r x [] H1 Q
def K3(K:Frag)(T:Vg)(r:V->List V->Hp->VK->Prop)(to:TE)(t:TA):TE:=λσ H Q=>to σ H λx H1=>IJ K T x H1/\t σ H1 λxs H2=>r x xs H2 Q
variable{o e:Vd}{es:List Vd}{to:TE}{t:TA}{name:Str}{apos cpos:Pos}{T id:Vg}{r:V->List V->Hp->VK->Prop}
theorem BD(pa:PlainAttrs T)(slot:Slot T name id)(hty:typeOf (.builtin id)=pure (.type "method_descriptor"))(hm:GL X id r)(ho:PE X o to)
  (hbase:attributeBase o name X.env (eval o X.env)=eval o X.env:=by rfl) (hline:(apos.endLine == cpos.line)=true:=by rfl):PE X (.Call (.Attribute o name apos) [] [] cpos) (IY X.K T r to):=by
 intro pins s σ H Q I h;refine wpAny_Call_method0_late hbase hline (cA (ho pins s σ H _ I h) λv s1 ⟨x,H1,I1,r1,ty,q1⟩=>?_);obtain⟨h1,h2⟩:=AV I1 r1 ty;exact⟨T,id,pa,slot,hty,h1,h2,Calls.callWith_builtin rfl (PySem.evalArgs_none (hm pins s1 σ H1 x [] v [] Q I1 r1 .nil q1))⟩
theorem qT(pa:PlainAttrs T)(slot:Slot T name id)(hty:typeOf (.builtin id)=pure (.type "method_descriptor"))(hm:GL X id r)(ho:PE X o to)(ha:PA X (e::es) t)
  (hbase:attributeBase o name X.env (eval o X.env)=eval o X.env:=by rfl)
  (hfew:((backTo cpos (starEach (e::es) X.env)).all (λx=>!x.1) && (backToKw cpos (keywordEach [] X.env)).all (λx=>x.1.isSome)
   && decide ((e::es).length+([]:List Keyword).length+(if([]:List Keyword).isEmpty then 0 else 1)<30))=true:=by rfl)
  (hline:(apos.endLine == cpos.line)=true:=by rfl) (hs:starEach (e::es) X.env=(false,eval e X.env)::starEach es X.env:=by rfl) (hplain:(backTo cpos (starEach es X.env)).any (·.1)=false:=by rfl):
  PE X (.Call (.Attribute o name apos) (e::es) [] cpos) (K3 X.K T r to t):=by
 intro pins s σ H Q I h;refine wpAny_Call_method_late hbase hfew hline rfl (cA (ho pins s σ H _ I h) λv s1 ⟨x,H1,I1,r1,ty,q1⟩=>?_);obtain⟨h1,h2⟩:=AV I1 r1 ty;refine⟨T,id,pa,slot,hty,h1,h2,?_⟩;have hA:=ha cpos pins s1 σ H1 _ I1 q1;rw[hs] at hA ⊢;refine Calls.callWith_builtin (by show(false || (backTo cpos (starEach es X.env)).any (·.1))=false;rw[hplain] <;> rfl) (Calls.evalArgs_plain ?_)
 exact cA hA λus s2 ⟨vs,H2,I2,r2,q2⟩=>hm pins s2 σ H2 x vs v us Q I2 r1 r2 q2
end
def JU(X:Cx)(id:Vg)(r:V->List V->Hp->VK->Prop):Prop:=
 ∀(pins:List (Q9×Obj))(s:Q8)(σ:St)(H:Hp)(x:V)(xs:List V)(v:Q7)(us:List Q7)(Q:VK),aD X pins σ H s->RelV x v->Vals xs us->r x xs H Q->
  wpAny (model X.prog X.w) X.A (call (.builtin id) (v::us)) (EP X pins σ Q) X.xe s
theorem Vals.one:∀{x:V}{us:List Q7},Vals [x] us->∃u,us=[u]/\RelV x u
 |_,_,.cons r .nil=>⟨_,rfl,r⟩
theorem Vals.zero:∀{us:List Q7},Vals [] us->us=[]
 |_,.nil=>rfl
theorem Vals.dropLast{xs:List V}{us:List Q7}(h:Vals xs us):Vals xs.dropLast us.dropLast:=by
 induction h with
 |nil=>exact .nil
 |cons r t ih=>
  cases t with
  |nil=>exact .nil
  |cons q t'=>exact .cons r ih
theorem xJ{α:Type}(l:List α):l.eraseIdx (l.length - 1)=l.dropLast:=by
 induction l with
 |nil=>rfl
 |cons a r ih=>
  cases r with
  |nil=>rfl
  |cons b r=>exact congrArg (a::·) ih
section
variable{X:Cx}{pins:List (Q9×Obj)}{σ:St}{H:Hp}{s:Q8}{l b:Q9}{xs ys zs:List V}
theorem aD.lset{its its':List Q7}{n:Nat}{f:Array Q7->Array Q7}{t':Nat}(I:aD X pins σ H s)(hH:H l=some (.lst xs))
  (e:s.heap.get? l=some {cls:=.type "list",data:=.seq its.toArray n}) (hf:f its.toArray=its'.toArray) (hv:Vals ys its') (hz:ys.length<=sizeLine):
  aD X pins σ (bW H l (.lst ys)) {s with heap:=s.heap.update l (Obj.mapSeq f),toks:=t'}:=by
 have q:=PySem.IsL.update e f;rw[hf] at q;refine I.write (x:=l) (e:=l) (by rw[hH];exact trivial) (.inl rfl) (λb' u hb hu=>(Heap.get?_update_other s.heap (Obj.mapSeq f) (Ne.symm hb)).trans hu) ⟨_,q⟩ ?_
 exact⟨hz,its',_,hv,q⟩
theorem aD.lnew{its:List Q7}{t':Nat}(I:aD X pins σ H s)(hv:Vals ys its)(hz:ys.length<=sizeLine):
  aD X pins σ (bW H s.heap.objs.size (.lst ys)) {s with heap:=s.heap.push {cls:=.type "list",data:=.seq its.toArray},toks:=t'}:=
 I.laid (λ_ _ q=>get?_push_of_some _ q) (le_refl _) ⟨hz,its,0,hv,get?_push_size _ rfl⟩
theorem aD.fresh(I:aD X pins σ H s):H s.heap.objs.size=none:=I.hok.fresh (le_refl _)
theorem aD.lstM(I:aD X pins σ H s)(hH:H l=some (.lst xs)):xs.length<=sizeLine/\∃(its:List Q7)(n:Nat),Vals xs its/\xs.length=its.length/\s.heap.get? l=some {cls:=.type "list",data:=.seq its.toArray n}:=by
 obtain⟨z,its,n,r,e⟩:=I.hok l _ hH;exact⟨z,its,n,r,r.length,e⟩
end
section
variable{X:Cx}
def Dg:V->List V->Hp->VK->Prop:=λx vs H Q=>∃l xs y,x=.ref l/\vs=[y]/\H l=some (.lst xs)/\xs.length<sizeLine/\Q .non (bW H l (.lst (xs++[y])))
theorem iM:JU X "list.append" Dg:=by
 intro pins s σ H x vs v us Q I rx rv h;obtain⟨l,xs,y,rfl,rfl,hH,hz,q⟩:=h;cases rx;obtain⟨u,rfl,ru⟩:=rv.one;obtain⟨z,its,n,r,hl,e⟩:=I.lstM hH;refine call_meets F.slot_list_append ⟨_,e,rfl⟩ F.entry_list_append (F.args_list_append_2 _ _) (PySem.list_append l its.toArray n u (by rw[size_toArray];omega)) ⟨e,?_⟩
 refine⟨.non,_,I.lset (its':=its++[u]) hH e (by simp) (r.append (.cons ru .nil)) ?_,rfl,q⟩
 rw[length_append,length_singleton];omega
def Je:V->List V->Hp->VK->Prop:=λx vs H Q=>∃l xs y,x=.ref l/\vs=[]/\H l=some (.lst xs)/\xs[xs.length - 1]?=some y/\Q y (bW H l (.lst xs.dropLast))
theorem BV:JU X "list.pop" Je:=by
 intro pins s σ H x vs v us Q I rx rv h;obtain⟨l,xs,y,rfl,rfl,hH,hy,q⟩:=h;cases rx;have hus:=rv.zero;subst hus;obtain⟨z,its,n,r,hl,e⟩:=I.lstM hH;obtain⟨u,hu,ru⟩:=r.get hy;have hy':its.toArray[its.toArray.size - 1]?=some u:=by
  show its.toArray[its.length - 1]?=some u;rw[<-getElem?_toList,<-hl];exact hu
 refine call_meets F.slot_list_pop ⟨_,e,rfl⟩ F.entry_list_pop (F.args_list_pop_1 _) (MeetsSeq.list_pop_last l its.toArray n u hy' (by rw[size_toArray];omega)) ⟨e,?_⟩
 refine⟨y,_,I.lset (its':=its.dropLast) hH e ?_ r.dropLast ?_,ru,q⟩
 ·show its.toArray.eraseIdxIfInBounds (its.toArray.size - 1)=its.dropLast.toArray;rw[size_toArray,List.eraseIdxIfInBounds_toArray,xJ]
 ·rw[List.length_dropLast];omega
end
end L2
namespace Att
open PySem PySem.W PySem.Calls PyProof.Rows
theorem nV{P:Params}{h:Vc}:∀(ns:List Int)(vs:List Q7),WellAll P h vs (ns.map WData.int)->IntsAre vs ns:=by
 intro ns
 induction ns with
 |nil=>
  intro vs w;rw[map_nil] at w;cases w;exact .nil
 |cons n ns ih=>
  intro vs w;rw[map_cons] at w;cases w with
  |cons a b=>
   cases a;exact .cons _ _ (ih _ b)
theorem zE{l:OpenLaw}{n:Nat}(hn:l.most=some n){P:Params}{h:Vc}{args:List WData}{vals:List Q7}
  (hpre:l.row.toRowW.claim.pre args=true) (hwl:WellAll P h vals args):
  ∃a vs ns,vals=[Value.ref a]/\args=[WData.list (ns.map WData.int)]/\h.get? a=some {cls:=.type "list",data:=.seq vs.toArray}/\IntsAre vs ns/\ns.length<=n:=by
 have hsh:WShape.hasAll [] args [.list .int]=true:=(pre_splitW hpre).1;have hc:l.pre.holds [] {args:=args}=true:=(pre_splitW hpre).2;obtain⟨d,r,rfl,h1,h2⟩:=hasAllW_cons hsh;obtain rfl:=hasAllW_nil h2;obtain⟨xs,rfl,h3⟩:=hasW_list h1;obtain⟨ns,rfl⟩:=items_int h3;have hlen:ns.length<=n:=by
  unfold OpenLaw.pre at hc;have h4:(WTm.not (.lt (.lit (.int (n:Int))) (.len (.arg 0)))).holds [] {args:=[.list (ns.map .int)]}=true:=by
   have h4:=(holds_andW hc).1;rw[hn] at h4;exact h4
  have h5:=condW_of h4 (w_not (w_lt w_lit (w_len_list (w_arg rfl))));rw[length_map] at h5;refine Nat.le_of_not_lt λq=>?_;have q':(n:Int)<((ns.length:Nat):Int):=by omega
  first
   | (rw[decide_eq_true q'] at h5;exact absurd h5 (by decide))
   | (simp at h5;omega)
 cases hwl with
 |cons w1 w2=>
  cases w2;cases w1 with
  |list ho hall=>exact⟨_,_,ns,rfl,rfl,ho,nV ns _ hall,hlen⟩
theorem zR(l:OpenLaw)(args:List WData):l.row.toRowW.claim.post args (.bool true) args=true:=
 postW_of (r:=l.row.toRowW) (X:=(true == true))
  (show WShape.has [] (.bool true) .bool=true by first|rfl|decide|simp[WShape.has,WShape.arms,WShape.armsAll])
  (show(WTm.eq .res (.lit (.bool true))).value [] {args:=args,res:=some (.bool true),after:=args}=some (.bool (true == true)) from w_eq_bool (w_res rfl) w_lit) rfl
theorem attach_call{l:OpenLaw}{n:Nat}{q:Va}{loose:List Str}{XP:(Str->Option Q7)->Vc->Prop}{YP:Vb->Vc->Prop}{d:DefRec}
  (hn:l.most=some n) (hdf:d.params.defaults=[])
  (call:∀(w:Vb)(s₀ s₁:Q8)(mg mb:Str->Option Q7)(fa:Q9)(o:Obj)(pm cd doc:Q7)(a:Q9)(vs:List Q7)(ns:List Int),
   Ground q loose [] XP w s₀ mg mb s₁.heap->YP w s₁.heap->
   s₁.heap.get? fa=some o->o.data=.func (docDef d.name d.params d.body d.scope pm cd doc)->s₁.heap.CodeRec cd d.name->mg d.name=some (.ref fa)->
   s₁.heap.get? a=some {cls:=.type "list",data:=.seq vs.toArray}->IntsAre vs ns->ns.length<=n->s₁.gens=#[]->
   codeAny (model l.prog w) callerA (.call (.ref fa) ⟨[.ref a],[]⟩) (λr s'=>r=.ok (.ret (.bool true))/\OldK s₁.heap s'.heap/\s'.os=s₁.os/\AllBare s'.gens) s₁):
  WalkO q loose XP YP l.row.toRowW d [] (λf vs=>PySem.call f vs):=by
 intro w s₀ s₁ mg mb G Y fa o pm cd doc dV kV ho hd hcd hD hmg hg args vals as hpre hlay hrd hwl hlo;obtain rfl:dV=.none:=Dflts.none hD hdf;obtain rfl:kV=.none:=Dflts.noKw hD;obtain⟨a,vs,ns,rfl,rfl,hobj,hints,hlen⟩:=zE hn hpre hwl;refine enter_call (codeAny_mono (call w s₀ s₁ mg mb fa o pm cd doc a vs ns G Y ho (fd_plain hd) hcd hmg hobj hints hlen hg) λr s' hq=>?_);obtain⟨rfl,h2,h3,h4⟩:=hq;exact⟨.inl ⟨.bool true,.bool true,[],rfl,λ_=>rfl,.bool true,zR l _,λ_=>⟨List.Pairwise.nil,λ_ hm=>(nomatch hm)⟩⟩,h2,h3,h4⟩
section
variable{prog:Va}{w:Vb}{A:Vf}{E:Q7->Q8->Prop}{s:Q8}{K:Frag}
def Jm(h:Vc)(L d:Q9):List (Q9×Obj):=(List.range h.objs.size).filterMap λa=>if a=L\/a=d then none else(h.get? a).map λo=>(a,o)
end
end Att
namespace L2
open PySem PySem.Spec PyProof.Rows
theorem qE:∀{vs:List Q7}{ns:List Int},IntsAre vs ns->Vals (ns.map V.int) vs
 |_,_,.nil=>.nil
 |_,_,.cons n t h=>.cons ⟨t,rfl⟩ (qE h)
def GJ(H:Hp):Prop:=∀b,H b=none\/∃o xs,H b=some (.frz o (.lst xs))
theorem C1{P:Va}{w:Vb}{K:Frag}{mg mb:Str->Option Q7}{CX:AD}{k:Nat}{fa a:Q9}{fd:FuncData}{x:Str}{sp:Sp}{s₁:Q8}{vs:List Q7}{ns:List Int}
  (KX:K.In s₁.heap) (hns:s₁.heap.Ns mainGlobals mg) (hb:s₁.heap.Ns builtinsNs mb) (hbb:∀x:Str,x ≠ "__name__" -> mb x=bootBuiltins x) (hlim:s₁.heap.NoLimit) (hg:s₁.gens=#[])
  (ha:s₁.heap.get? a=some {cls:=.type "list",data:=.seq vs.toArray}) (hi:IntsAre vs ns) (hl:ns.length<=sizeLine) (hr:cg k callerA)
  (F:∀base:Vc,K.In base->base.Ns mainGlobals mg->eI P w K mg base CX k fa fd [x] sp) (hbind:∀(s:Q8)(u:Q7),BindsTo s fd ⟨[u],[]⟩ [(x,u)])
  (hsp:∀H:Hp,GJ H->fJ K H a (ns.map V.int)->sp [.ref a] H (λv _=>v=.bl true) λ_ _ _=>False)
  (hCX:∀H e s',CX [] H s₁ (λ_ _ _=>False) e s'->False):
  codeAny (model P w) callerA (.call (.ref fa) ⟨[.ref a],[]⟩) (λr s'=>r=.ok (.ret (.bool true))/\OldK s₁.heap s'.heap/\s'.os=s₁.os/\AllBare s'.gens) s₁:=by
 have rv:=qE hi;have lenV:=hi.length;have core:∀H:Hp,GJ H->fJ K H a (ns.map V.int)->nZ P w H s₁.heap->(∀b,H b≠none->b=a)->(H a≠none->K.lookup a=none)->
   codeAny (model P w) callerA (.call (.ref fa) ⟨[.ref a],[]⟩) (λr s'=>r=.ok (.ret (.bool true))/\OldK s₁.heap s'.heap/\s'.os=s₁.os/\AllBare s'.gens) s₁:=by
  intro H hO hS hok hA hK;have base_of:∀{b:Q9}{o:Obj},s₁.heap.get? b=some o->H b=none->(tF s₁.heap H).get? b=some o:=λe n=>Ce e n;have noA:∀{b:Q9}{o:Obj}{es:Array DictEntry}{ep:Nat},s₁.heap.get? b=some o->o.data=.dict es ep->H b=none:=λ{b o es ep} e d=>by
   cases q:H b with
   |none=>rfl
   |some u=>
    have e':b=a:=hA b (by rw[q];simp)
    subst e';rw[ha] at e;cases e;have d':Data.seq vs.toArray _=Data.dict es ep:=d;cases d'
  have nsK:∀{b:Q9}{m:Str->Option Q7},s₁.heap.Ns b m->(tF s₁.heap H).Ns b m:=λ{b m} ⟨o,es,ep,e,d,r⟩=>⟨o,es,ep,base_of e (noA e d),d,r⟩;have hKb:K.In (tF s₁.heap H):=λb o e=>base_of (KX b o e) (by
   cases q:H b with
   |none=>rfl
   |some u=>
    have e':b=a:=hA b (by rw[q];simp)
    subst e';rw[hK (by rw[q];simp)] at e;cases e)
  have hM:Mod K mg (tF s₁.heap H):=⟨hKb,nsK hns,⟨mb,nsK hb,hbb⟩,let ⟨mc,h1,h2⟩:=hlim;⟨mc,nsK h1,h2⟩⟩;have e0:yd P w K mg (tF s₁.heap H) callerA [] s₁ H:=⟨rfl,hM,λb o e=>DM e,le_of_eq (A7 _ _),trivial,λb hb=>absurd (show b∈([]:List Q9) from hb) (by simp),hok,.of_eq hg⟩
  refine codeAny_mono ((F _ hKb (nsK hns)).run callerA [] s₁ H ⟨[.ref a],[]⟩ [.ref a] [.ref a] _ _ hr e0 (hbind s₁ (.ref a)) (.cons rfl .nil) (hsp H hO hS)) λr s' h=>?_;cases r with
  |error e=>exact(hCX H e s' h).elim
  |ok fl=>
   cases fl with
   |next=>exact False.elim h
   |brk=>exact False.elim h
   |cont=>exact False.elim h
   |ret u=>
    obtain⟨v,H',os,bare,un,hok',r',q⟩:=h;have q':v=.bl true:=q;subst q';obtain rfl:u=Value.bool true:=r';refine⟨rfl,OldK.of_keep λb o e=>?_,os,bare⟩;cases q:H b with
    |none=>exact un.keep b o e q (by intro z;exact absurd (show b∈([]:List Q9) from z) (by simp)) (by simp)
    |some u=>
     rcases hO b with z|⟨ob,xs,z⟩
     ·rw[q] at z;cases z
     ·have z2:=un.frzs b ob _ z;obtain⟨e1,_⟩:=hok b _ z;obtain⟨e2,_⟩:=hok' b _ z2;rw[e] at e1;cases e1;exact e2
 cases hk:K.lookup a with
 |some o=>
  have e:=KX a o hk;rw[ha] at e;cases e;refine core (λ_=>none) (λ_=>.inl rfl) (.inr ⟨_,vs.toArray,_,hk,rfl,rfl,rfl,by rw[size_toArray,lenV];exact hl,by simpa using rv⟩) (λb u z=>by have z':(none:Option HO)=some u:=z;cases z') (λb z=>absurd rfl z) λz=>absurd rfl z
 |none=>
  refine core (λb=>if b=a then some (.frz {cls:=.type "list",data:=.seq vs.toArray} (.lst (ns.map V.int))) else none) (λb=>?_) (.inl (.inr ⟨{cls:=.type "list",data:=.seq vs.toArray},if_pos rfl⟩)) (λb u z=>?_) (λb z=>?_) λ_=>hk
  ·by_cases hb:b=a
   ·exact .inr ⟨_,_,if_pos hb⟩
   ·exact .inl (if_neg hb)
  ·by_cases hb:b=a
   ·have z':=(if_pos hb).symm.trans z;cases z';subst hb;exact⟨ha,by rw[length_map];exact hl,vs,_,rv,ha⟩
   ·have z':=(if_neg hb).symm.trans z;cases z'
  ·by_cases hb:b=a
   ·exact hb
   ·exact absurd (if_neg hb) z
abbrev Kf{K:Frag}{h:Vc}(_:K.In h):Frag:=K
theorem walk_of{l:PySem.W.OpenLaw}{n k:Nat}{q:Va}{loose:List Str}{XP:(Str->Option Q7)->Vc->Prop}{YP:Vb->Vc->Prop}{d:DefRec}{K:Params->Frag}{CX:Vb->AD}{sp:Vb->Sp}{x:Str}
  (hn:l.most=some n) (hn2:n<=sizeLine) (hdf:d.params.defaults=[]) (hr:cg k callerA)
  (hY:∀(w:Vb)(h:Vc),YP w h->(K w.params).In h)
  (F:∀(w:Vb)(mg:Str->Option Q7)(fa:Q9)(h:Vc),(K w.params).In h->h.Ns mainGlobals mg->mg d.name=some (.ref fa)->
   ∃fd:FuncData,(∀(s:Q8)(u:Q7),BindsTo s fd ⟨[u],[]⟩ [(x,u)])/\
    ∀base:Vc,(K w.params).In base->base.Ns mainGlobals mg->eI l.prog w (K w.params) mg base (CX w) k fa fd [x] (sp w))
  (hsp:∀(w:Vb)(H:Hp)(a:Q9)(ns:List Int),ns.length<=n->GJ H->fJ (K w.params) H a (ns.map V.int)->sp w [.ref a] H (λv _=>v=.bl true) λ_ _ _=>False)
  (hCX:∀(w:Vb)(H:Hp)(s:Q8)(e:Q7)(s':Q8),CX w [] H s (λ_ _ _=>False) e s'->False):
  PySem.W.WalkO q loose XP YP l.row.toRowW d [] (λf vs=>PySem.call f vs):=by
 refine Att.attach_call hn hdf λw s₀ s₁ mg mb fa o pm cd doc a vs ns G Y ho hd hcd hmg hobj hints hlen hg=>?_;have KX:=hY w _ Y;obtain⟨fd,hb,hF⟩:=F w mg fa _ KX G.T.g hmg;exact C1 KX G.T.g G.T.b G.T.builtins G.T.nolimit hg hobj hints (le_trans hlen hn2) hr hF hb (λH hO hS=>hsp w H a ns hlen hO hS) λH e s'=>hCX w H s₁ e s'
def eU(s:Ve)(j:Nat):Ve:=match s with
 |.ClassDef _ _ _ body _ _ _ _ _ _ _=>body.getD j (.Pass ⟨0,0,0,0⟩)
 |_=>.Pass ⟨0,0,0,0⟩
def aI(s:Ve):Arguments:=match s with
 |.FunctionDef _ a _ _ _ _ _ _ _ _=>a
 |_=>{posonlyargs:=[],args:=[],vararg:=none,kwonlyargs:=[],kw_defaults:=[],kwarg:=none,defaults:=[]}
def ao(s:Ve):List Ve:=match s with
 |.FunctionDef _ _ b _ _ _ _ _ _ _=>b
 |_=>[]
def aa(s:Ve):Scope:=match s with
 |.FunctionDef _ _ _ _ _ _ sc _ _ _=>sc
 |_=>{kind:=.function,names:=[],isGenerator:=false,isCoroutine:=false}
abbrev kA:AD:=λ_ _ _ _ _ _=>False
abbrev E0:XK:=λ_ _ _=>False
theorem va{X:Cx}:nu kA X E0:=λ_ _ _ _ _ _ _ h=>h.elim
structure wx(K:Frag)(x qual:Str)(st:Ve)(f:Q9)(fd:FuncData):Prop where
 ex:∃(oc:Q7)(od:Option Q9)(kV doc pm:Q7)(an:Option Q9)(cdv ct:Q7)(osl:Array (Option Q7)),
  fd=fnOf x qual (aI st) (ao st) (aa st) .none kV doc pm an cdv ct/\K.lookup f=some ⟨oc,od,.func fd,osl⟩/\codeIn K cdv qual=true
 kp:keepIn K (.ref f)=true
section
variable{P:Va}{w:Vb}{K:Frag}{mg:Str->Option Q7}{base:Vc}
theorem wx.ok{x qual:Str}{st:Ve}{f:Q9}{fd:FuncData}{N ps:List Str}{k:Nat}{sp:Sp}(F:wx K x qual st f fd)(S:aE N ps (aa st))(len:∀vs H Q E,sp vs H Q E->vs.length=ps.length)
  (hbody:∀(cdv:Q7)(A:Vf)(outer:List Env)(s:Q8)(H:Hp)(vs:List V)(Q:VK)(E:XK),cg k (A.deeper (envOfC qual (aa st) s.heap.objs.size f cdv))->sp vs H Q E->
   ∃t,nv (jP kA P w K mg base N qual (aa st) f cdv A outer s H E).nox (ao st) t/\t {nx:=λ_ H'=>Q .non H',rt:=Q} (start N vs) H):eI P w K mg base kA (k+1) f fd ps sp:=by
 obtain⟨oc,od,kV,doc,pm,an,cdv,ct,osl,rfl,lk,hcd⟩:=F.ex;refine EX lk hcd S len λA outer s H vs Q E hr hsp=>?_;obtain⟨t,h,q⟩:=hbody cdv A outer s H vs Q E hr hsp;exact⟨t,h.nox,q⟩
theorem wx.binds{x qual:Str}{st:Ve}{f:Q9}{fd:FuncData}{ps:List Str}(F:wx K x qual st f fd)
  (h:∀(kV doc pm:Q7)(an:Option Q9)(cdv ct:Q7)(us:List Q7),us.length=ps.length->bindArgs (fnOf x qual (aI st) (ao st) (aa st) .none kV doc pm an cdv ct) ⟨us,[]⟩=pure (ps.zip us)):fZ K fd ps []:=by
 obtain⟨oc,od,kV,doc,pm,an,cdv,ct,osl,rfl,lk,hcd⟩:=F.ex;exact .all (h kV doc pm an cdv ct)
theorem n9{x qual:Str}{st:Ve}{f:Q9}{oc:Q7}{od an:Option Q9}{osl:Array (Option Q7)}{kV doc pm cdv ct:Q7}(l:K.lookup f=some ⟨oc,od,.func (fnOf x qual (aI st) (ao st) (aa st) .none kV doc pm an cdv ct),osl⟩)
  (c:codeIn K cdv qual=true) (k:keepIn K (.ref f)=true):wx K x qual st f (fnOf x qual (aI st) (ao st) (aa st) .none kV doc pm an cdv ct):=⟨⟨oc,od,kV,doc,pm,an,cdv,ct,osl,rfl,l,c⟩,k⟩
end
theorem I8{A:Vf}{k:Nat}(hr:cg k A):A.units+1<cLine:=Nat.lt_of_le_of_lt (Nat.add_le_add_left (by decide:1<=64) _) hr.units
section
variable{X:Cx}
theorem pv(i:Nat){x:Str}{pos:Pos}(hN:X.N[i]?=some x:=by rfl)(hv:Ij X.env.scope x:=by first|exact Or.inl rfl|exact Or.inr (Or.inl rfl)|exact Or.inr (Or.inr rfl))(hd:(x == ("__debug__":Str))=false:=by decide)
  (hcd:(x == ("__classdict__":Str))=false:=by decide):PE X (.Name x pos) (mL i):=Fz hN hv hd hcd
end
theorem HW{A B:Prop}(h:B):if false=true then A else B:=by
 rw[if_neg Bool.false_ne_true];exact h
theorem HV{A B:Prop}(h:A):if true=true then A else B:=by
 rw[if_pos rfl];exact h
def aj(H H':Hp):Prop:=∀b o,H b=some o->H' b=some o
theorem aj.refl(H:Hp):aj H H:=λ_ _ h=>h
theorem aj.trans{H H1 H2:Hp}(a:aj H H1)(b:aj H1 H2):aj H H2:=λc o h=>b c o (a c o h)
theorem aj.free{H H':Hp}(e:aj H H'){l:Q9}(h:H' l=Option.none):H l=Option.none:=by
 cases q:H l with
 |none=>rfl
 |some o=>
  rw[e l o q] at h;cases h
theorem aj.seq{K:Frag}{H H':Hp}{a:Q9}{xs:List V}(e:aj H H')(h:fJ K H a xs):fJ K H' a xs:=by
 rcases h with(h|⟨o,h⟩)|h
 ·exact .inl (.inl (e _ _ h))
 ·exact .inl (.inr ⟨o,e _ _ h⟩)
 ·exact .inr h
section
variable{X:Cx}{pins:List (Q9×Obj)}{σ:St}{H:Hp}{s:Q8}{a:Q9}{y v:V}{u r:Q7}{o:Option V}{A:Vf}{E:Q7->Q8->Prop}
end
end L2
namespace L3
open PySem
inductive D where
 |non|bl (b:Bool)|int (i:Int)|str (x:Str)|tup (ds:List D)|lst (ds:List D)|obj (c:Vg) (ns:List Str) (ds:List D)|fn (k:Nat) (ds:List D)
inductive Tr where
 |sh (d:D)|lst (ts:List Tr)|ins (c:Vg) (ns:List Str) (ts:List Tr)
inductive O where
 |lst (ds:List D)|obj (c:Vg) (ns:List Str) (ds:List D)|dic (kvs:List (List Int×Int))|par (a:Nat) (o:O)|fdic (kvs:List (List Int×Int))|tab (kvs:List (D×D))|dik (kvs:List (Int×Int))|tre (t:Tr)
abbrev DE:Nat:=1000000
noncomputable instance decD:DecidableEq D:=λa b=>Classical.propDecidable (a=b)
noncomputable def O.val:O->D
 |.lst ds=>.lst ds
 |.obj c ns ds=>.obj c ns ds
 |.dic _=>.non
 |.par _ _=>.non
 |.fdic _=>.non
 |.tab _=>.non
 |.tre _=>.fn DE []
 |.dik _=>.fn DE []
inductive S where
 |sh (d:D)|own (o:O)|two (d:D) (a:Nat) (o:O)|thr (d:D) (a:Nat) (o:O) (b:Nat) (u:O)
def S.val:S->D
 |.sh d=>d
 |.own o=>o.val
 |.two d _ _=>d
 |.thr d _ _ _ _=>d
def S.nd:S->Bool
 |.own (.dic _)=>false
 |.own (.par _ _)=>false
 |.own (.fdic _)=>false
 |.own (.tab _)=>false
 |.own (.tre _)=>false
 |.two _ _ _=>false
 |.thr _ _ _ _ _=>false
 |_=>true
inductive R where
 |ok (s:S)|exc (x:D)
abbrev aA:=List (Option S)
inductive kh where
 |next (ρ:aA)|brk (ρ:aA)|cont (ρ:aA)|ret (s:S)|exc (x:D)
abbrev ME:=aA->Option R
abbrev MC:=aA->Option kh
inductive RI where
 |ok (ds:List D)|exc (x:D)
abbrev MI:=aA->Option RI
abbrev MB:=D->aA->Option aA
@[reducible] def okD (d:D):Option R:=some (.ok (.sh d))
@[reducible] def okI (i:Int):Option R:=okD (.int i)
@[reducible] def okB (b:Bool):Option R:=okD (.bl b)
@[reducible] def okL (ds:List D):Option R:=some (.ok (.own (.lst ds)))
def aQ(r:Option R)(k:D->Option R):Option R:=match r with
 |some (.ok s)=>k s.val
 |some (.exc x)=>some (.exc x)
 |none=>none
def h7(r:Option R)(k:S->Option kh):Option kh:=match r with
 |some (.ok s)=>k s
 |some (.exc x)=>some (.exc x)
 |none=>none
@[simp] theorem bindV_ok (s:S) (k:D->Option R):aQ (some (.ok s)) k=k s.val:=rfl
@[simp] theorem bindV_exc (x:D) (k:D->Option R):aQ (some (.exc x)) k=some (.exc x):=rfl
@[simp] theorem bindV_none (k:D->Option R):aQ none k=none:=rfl
@[simp] theorem bindO_ok (s:S) (k:S->Option kh):h7 (some (.ok s)) k=k s:=rfl
@[simp] theorem bindO_exc (x:D) (k:S->Option kh):h7 (some (.exc x)) k=some (.exc x):=rfl
@[simp] theorem bindO_none (k:S->Option kh):h7 none k=none:=rfl
@[simp] theorem S.val_sh (d:D):(S.sh d).val=d:=rfl
@[simp] theorem S.val_own (o:O):(S.own o).val=o.val:=rfl
@[simp] theorem O.val_lst (ds:List D):(O.lst ds).val=.lst ds:=rfl
@[simp] theorem O.val_obj (c:Vg) (ns:List Str) (ds:List D):(O.obj c ns ds).val=.obj c ns ds:=rfl
noncomputable def eVar(i:Nat):ME:=λρ=>match ρ[i]? with
 |some (some (.sh d))=>okD d
 |_=>none
noncomputable def eH(i:Nat):ME:=λρ=>match ρ[i]? with
 |some (some (.own (.dic _)))=>none
 |some (some (.own (.par _ _)))=>none
 |some (some (.own (.fdic _)))=>none
 |some (some (.own (.tab _)))=>none
 |some (some (.own (.tre _)))=>none
 |some (some (.two _ _ _))=>none
 |some (some (.thr _ _ _ _ _))=>none
 |some (some s)=>okD s.val
 |_=>none
noncomputable def eC(d:D):ME:=λ_=>okD d
noncomputable def dH(f:D->Option R)(a:ME):ME:=λρ=>aQ (a ρ) f
noncomputable def eBin(f:D->D->Option R)(a b:ME):ME:=λρ=>aQ (a ρ) λx=>aQ (b ρ) λy=>f x y
def cZ:List ME->aA->(List D->Option R)->Option R
 |[],_,k=>k []
 |e::es,ρ,k=>aQ (e ρ) λd=>cZ es ρ λds=>k (d::ds)
def au(f:List D->Option R)(as:List ME):ME:=λρ=>cZ as ρ f
def flat:D->Bool
 |.non=>true|.bl _=>true|.int _=>true|.str _=>true|_=>false
def pB:Option R->Option R
 |some (.ok s)=>if flat s.val then okD s.val else none
 |_=>none
def aJ(f:List D->Option R)(as:List ME):ME:=λρ=>pB (cZ as ρ f)
def lim:Nat:=1000000
def gn(as:List ME):ME:=au (λds=>if ds.length<=lim then okD (.tup ds) else none) as
def du(as:List ME):ME:=au (λds=>if ds.length<=lim then okL ds else none) as
def asB:D->(Bool->Option R)->Option R
 |.bl b,k=>k b
 |_,_=>none
def gp(a b:ME):ME:=λρ=>aQ (a ρ) λx=>asB x λc=>if c=true then b ρ else okB false
def kJ(a b:ME):ME:=λρ=>aQ (a ρ) λx=>asB x λc=>if c=true then okB true else b ρ
def Ig(x:D):Option R:=asB x λc=>okB (!c)
def pD(a:ME):ME:=dH Ig a
def Cw(c a b:ME):ME:=λρ=>aQ (c ρ) λx=>asB x λt=>if t=true then a ρ else b ρ
def aC(a b:MC):MC:=λρ=>match a ρ with
 |some (.next ρ')=>b ρ'
 |o=>o
def bp:MC:=λρ=>some (.next ρ)
def sSet(i:Nat)(e:ME):MC:=λρ=>h7 (e ρ) λs=>some (.next (ρ.set i (some s)))
def dq(e:ME):MC:=λρ=>h7 (e ρ) λs=>some (.ret s)
def asBO:D->(Bool->Option kh)->Option kh
 |.bl b,k=>k b
 |_,_=>none
def sIf(c:ME)(a b:MC):MC:=λρ=>h7 (c ρ) λs=>asBO s.val λt=>if t=true then a ρ else b ρ
def dem(i:Nat)(ρ:aA):aA:=match ρ[i]? with
 |some (some (.own (.dic _)))=>ρ
 |some (some (.own (.par _ _)))=>ρ
 |some (some (.own (.fdic _)))=>ρ
 |some (some (.own (.tab _)))=>ρ
 |some (some (.own (.tre _)))=>ρ
 |some (some (.own o))=>ρ.set i (some (.sh o.val))
 |_=>ρ
def cC(i:Nat)(c:MC):MC:=λρ=>c (dem i ρ)
def x5(i:Nat)(ρ:aA)(k:List D->Option kh):Option kh:=match ρ[i]? with
 |some (some (.own (.lst ds)))=>k ds
 |_=>none
def cH(i:Nat)(e:ME):MC:=λρ=>x5 i ρ λds=>h7 (e ρ) λs=>if ds.length<lim then some (.next (ρ.set i (some (.own (.lst (ds++[s.val])))))) else none
def tw:D->Option (List D)
 |.lst ds=>some ds
 |.tup ds=>some ds
 |_=>none
def AF(n:Nat)(i:Int):Option Nat:=if 0<=i then(if i<n then some i.toNat else none) else if -(n:Int)<=i then some (i+n).toNat else none
def lU(i:Nat)(k e:ME):MC:=λρ=>h7 (e ρ) λs=>x5 i ρ λds=>h7 (k ρ) λz=>match z.val with
 |.int j=>(match AF ds.length j with
  |some n=>some (.next (ρ.set i (some (.own (.lst (ds.set n s.val))))))
  |none=>none)
 |_=>none
def aY(j:Nat):MB:=λd ρ=>some (ρ.set j (some (.sh d)))
def sA:List Nat->List D->aA->aA
 |j::js,d::ds,ρ=>sA js ds (ρ.set j (some (.sh d)))
 |_,_,ρ=>ρ
def mH(js:List Nat):MB:=λd ρ=>match d with
 |.tup ds=>if ds.length=js.length then some (sA js ds ρ) else none
 |_=>none
def iP(bd:MB)(body:MC):List D->aA->Option kh
 |[],ρ=>some (.next ρ)
 |d::ds,ρ=>match bd d ρ with
  |none=>none
  |some ρ1=>match body ρ1 with
   |some (.next ρ2)=>iP bd body ds ρ2
   |some (.cont ρ2)=>iP bd body ds ρ2
   |some (.brk ρ2)=>some (.next ρ2)
   |o=>o
def lV(it:MI)(bd:MB)(body:MC):MC:=λρ=>match it ρ with
 |some (.ok ds)=>iP bd body ds ρ
 |some (.exc x)=>some (.exc x)
 |none=>none
def fB(e:ME):MI:=λρ=>match e ρ with
 |some (.ok s)=>(tw s.val).map .ok
 |some (.exc x)=>some (.exc x)
 |none=>none
def rng(lo hi:Int):List D:=(List.range (hi - lo).toNat).map λ(k:Nat)=>D.int (lo+k)
def r9(i:Int):Bool:=decide (-(2 ^ 62)<=i) && decide (i<2 ^ 62)
def mn(e:ME)(ρ:aA)(k:D->Option RI):Option RI:=match e ρ with
 |some (.ok s)=>k s.val
 |some (.exc x)=>some (.exc x)
 |none=>none
def b7(e:ME):MI:=λρ=>mn e ρ λx=>match x with
 |.int hi=>if r9 hi=true then some (.ok (rng 0 hi)) else none
 |_=>none
def II:D->D->Option RI
 |.lst xs,.lst ys=>some (.ok (zipWith (λu v=>D.tup [u,v]) xs ys))
 |.tup xs,.tup ys=>some (.ok (zipWith (λu v=>D.tup [u,v]) xs ys))
 |_,_=>none
def DZ(a b:ME):MI:=λρ=>mn a ρ λx=>mn b ρ λy=>II x y
def eZ(bd:MB)(cond elt:ME)(ρ:aA):List D->List D->Option R
 |[],acc=>if acc.length<=lim then okL acc else none
 |d::ds,acc=>match bd d ρ with
  |none=>none
  |some ρ1=>aQ (cond ρ1) λc=>asB c λt=>if t=true then aQ (elt ρ1) λx=>eZ bd cond elt ρ ds (acc++[x]) else eZ bd cond elt ρ ds acc
def dO(js:List Nat)(ρ:aA):aA:=js.foldl (λρ j=>ρ.set j none) ρ
def b3(js:List Nat)(it:MI)(bd:MB)(cond elt:ME):ME:=λρ=>match it ρ with
 |some (.ok ds)=>if ds.length<=lim then eZ bd cond elt (dO js ρ) ds [] else none
 |some (.exc x)=>some (.exc x)
 |none=>none
def eM(n:Nat)(ds:List D):aA:=ds.map (λd=>some (.sh d))++replicate (n - ds.length) none
def HB:Option kh->Option R
 |some (.ret s)=>some (.ok s)
 |some (.next _)=>okD .non
 |some (.exc x)=>some (.exc x)
 |_=>none
noncomputable def kH(np n:Nat)(g:MC):List D->Option R:=λds=>if ds.length=np then HB (g (eM n ds)) else none
def dAdd:D->D->Option R
 |.int i,.int j=>okI (i+j)
 |.str x,.str y=>if x.length+y.length<=lim then okD (.str (x++y)) else none
 |.tup xs,.tup ys=>if xs.length+ys.length<=lim then okD (.tup (xs++ys)) else none
 |.lst xs,.lst ys=>if xs.length+ys.length<=lim then okL (xs++ys) else none
 |_,_=>none
def Ek:D->D->Option R
 |.int i,.int j=>okI (i - j)
 |_,_=>none
def ir(i:Int):Bool:=decide (-(2 ^ 64)<i) && decide (i<2 ^ 64)
def dMul:D->D->Option R
 |.int i,.int j=>if(ir i || ir j)=true then okI (i * j) else none
 |_,_=>none
def lI:D->D->Option R
 |.int i,.int j=>if 0<j then okI (i % j) else none
 |_,_=>none
def Gx(p:Int->Int->Bool):D->D->Option R
 |.int i,.int j=>okB (p i j)
 |_,_=>none
def CQ:=Gx λi j=>decide (i<j)
def AH:=Gx λi j=>decide (i<=j)
def Eo:=Gx λi j=>decide (j<i)
def Cv:D->D->Option Bool
 |.int i,.int j=>some (decide (i=j))
 |.str x,.str y=>some (decide (x=y))
 |.bl x,.bl y=>some (decide (x=y))
 |.non,.non=>some true
 |.non,.int _=>some false|.int _,.non=>some false|.non,.str _=>some false|.str _,.non=>some false|.non,.bl _=>some false|.bl _,.non=>some false
 |.int _,.str _=>some false|.str _,.int _=>some false|.bl _,.str _=>some false|.str _,.bl _=>some false
 |_,_=>none
def dEq(x y:D):Option R:=match Cv x y with
 |some b=>okB b
 |none=>none
def qx(x y:D):Option R:=match Cv x y with
 |some b=>okB (!b)
 |none=>none
def Af:D->Option R
 |.non=>okB true
 |_=>okB false
def rJ{α:Type}(xs:List α)(i:Int):Option α:=(AF xs.length i).bind λj=>xs[j]?
def dj:D->D->Option R
 |.tup ds,.int i=>(rJ ds i).bind okD
 |.lst ds,.int i=>(rJ ds i).bind okD
 |.str x,.int i=>if x.length<=lim then(rJ x.cps.toList i).bind λc=>okD (.str ⟨#[c]⟩) else none
 |_,_=>none
def cm:D->Option R
 |.tup ds=>okI ds.length
 |.lst ds=>okI ds.length
 |.str x=>if x.length<=lim then okI x.length else none
 |_=>none
def intsOf:List D->Option (List Int)
 |[]=>some []
 |.int i::r=>(intsOf r).map (i::·)
 |_::_=>none
def blsOf:List D->Option (List Bool)
 |[]=>some []
 |.bl i::r=>(blsOf r).map (i::·)
 |_::_=>none
def Gw:D->Option R
 |.lst ds=>(intsOf ds).bind λns=>okI ns.sum
 |_=>none
def Ah:D->Option R
 |.lst ds=>(blsOf ds).bind λbs=>okB (bs.all id)
 |_=>none
def jO:D->Option R
 |.lst ds=>okD (.tup ds)
 |.tup ds=>okD (.tup ds)
 |_=>none
def F1:D->Option R
 |.lst ds=>okL ds
 |.tup ds=>okL ds
 |_=>none
def ER:D->Vg
 |.non => "NoneType" | .bl _ => "bool" | .int _ => "int" | .str _ => "str" | .tup _ => "tuple" | .lst _ => "list" | .obj c _ _=>c|.fn _ _ => "function"
def kz(T:Vg):D->Option R
 |.obj _ _ _=>none
 |.fn _ _=>none
 |d=>okB (ER d == T || (ER d == "bool" && T == "int"))
def f1(F:D->Option R):List D->Option R
 |[d]=>F d
 |_=>none
def f2(F:D->D->Option R):List D->Option R
 |[d,e]=>F d e
 |_=>none
def bf:ME:=eC (.bl true)
def xQ:D->D->Option R
 |.int i,.int j=>if 0<=j/\j<=1000000/\i.natAbs<2 ^ 64 then okI (i * 2 ^ j.toNat) else none
 |_,_=>none
def nW:D->D->Option R
 |.int i,.int j=>if 0<=i/\0<=j then okI ((i.toNat ||| j.toNat:Nat):Int) else none
 |_,_=>none
def dInt:D->Option R
 |.int i=>okI i
 |.bl b=>okI (if b then 1 else 0)
 |_=>none
def gW(f g:D->D->Option R)(a b c:ME):ME:=λρ=>aQ (a ρ) λx=>aQ (b ρ) λy=>aQ (f x y) λz=>asB z λt=>if t=true then aQ (c ρ) λw=>g y w else okB false
def Ie:D->Option RI
 |.lst xs=>some (.ok ((List.range xs.length).zipWith (λ(i:Nat) d=>D.tup [.int i,d]) xs))
 |.tup xs=>some (.ok ((List.range xs.length).zipWith (λ(i:Nat) d=>D.tup [.int i,d]) xs))
 |_=>none
def EW(a:ME):MI:=λρ=>mn a ρ Ie
def Ab:D->D->Bool
 |.non,.non=>true
 |.bl a,.bl b=>a == b
 |.bl a,.int b=>(if a then 1 else 0) == b
 |.int a,.bl b=>a == (if b then 1 else 0)
 |.int a,.int b=>a == b
 |.str a,.str b=>a == b
 |_,_=>false
def wt(x:D)(ds:List D):Bool:=ds.any λy=>Ab y x
def dIn(neg:Bool)(x y:D):Option R:=match tw y with
 |some ds=>if flat x=true/\ds.all flat=true then okB (if neg then !wt x ds else wt x ds) else none
 |none=>none
def kW(n d:Nat):Option Int->Nat
 |none=>d
 |some v=>if v<0 then(v+(n:Int)).toNat else min v.toNat n
def CB(ds:List D)(lo hi:Option Int):List D:=(ds.drop (kW ds.length 0 lo)).take (kW ds.length ds.length hi - kW ds.length 0 lo)
def nh(x:D)(lo hi:Option Int):Option R:=match x with
 |.tup ds=>if kW ds.length 0 lo=0/\kW ds.length ds.length hi=ds.length then none else okD (.tup (CB ds lo hi))
 |.lst ds=>okL (CB ds lo hi)
 |_=>none
def vb(o:Option ME)(ρ:aA)(k:Option Int->Option R):Option R:=match o with
 |none=>k none
 |some e=>aQ (e ρ) λd=>match d with
  |.int i=>k (some i)
  |_=>none
def dt(e:ME)(lo hi:Option ME):ME:=λρ=>aQ (e ρ) λx=>vb lo ρ λl=>vb hi ρ λh=>nh x l h
def insD(k:Int):List Int->List Int
 |[]=>[k]
 |x::r=>if k<x then k::x::r else if k=x then x::r else x::insD k r
def eY(ns:List Int):List Int:=ns.foldr insD []
def fewD(ns:List Int):Bool:=decide (ns.length<=4) && ns.all λn=>decide (0<=n) && decide (n<32)
def my:D->Option R
 |.lst ds=>(intsOf ds).bind λns=>if fewD ns=true then okL ((eY ns).map D.int) else none
 |_=>none
def Cp(f:Str):List Str->List D->Option D
 |n::ns,d::ds=>if f == n then some d else Cp f ns ds
 |_,_=>none
def cS(cs:List Vg)(f:Str):D->Option R
 |.obj c ns ds=>if cs.contains c=true then(Cp f ns ds).bind okD else none
 |_=>none
def eF(m:Str)(tb:Vg->Option (List D->Option R))(o:ME)(as:List ME):ME:=λρ=>aQ (o ρ) λx=>match x with
 |.obj c ns ds=>if ns.contains m=true then none else(match tb c with
  |some F=>cZ as ρ λvs=>F (.obj c ns ds::vs)
  |none=>none)
 |_=>none
abbrev F3:=O->List D->Option O
abbrev MG:=aA->O->Option O
def fD:List ME->aA->Option (List D)
 |[],_=>some []
 |e::es,ρ=>match e ρ with
  |some (.ok s)=>(fD es ρ).map (s.val::·)
  |_=>none
def tO:D->D->Option R
 |.lst ds,.lst []=>okB (!ds.isEmpty)
 |_,_=>none
end L3
namespace L3
end L3
namespace L3
end L3
namespace L3
open PySem
abbrev Tb:=List (List Int×Int)
abbrev sgn(c:Nat):D:=.str ⟨#[c]⟩
def signs(x:Str):List D:=x.cps.toList.map sgn
def E1(e:ME):MI:=λρ=>match e ρ with
 |some (.ok (.sh (.str x)))=>some (.ok (signs x))
 |_=>none
def Em(neg:Bool)(x y:D):Option R:=match x,y with
 |.str x,.str y=>(match x.cps.toList with
  |[c]=>okB (if neg then !decide (c∈y.cps.toList) else decide (c∈y.cps.toList))
  |_=>none)
 |_,_=>none
def El(x:D)(lo hi:Option Int):Option R:=match x with
 |.str z=>if z.length<=lim then okD (.str (Txt.slice z lo hi)) else none
 |_=>none
def mx(e:ME)(lo hi:Option ME):ME:=λρ=>aQ (e ρ) λx=>vb lo ρ λl=>vb hi ρ λh=>El x l h
def kf(x y:D):Option R:=match x,y with
 |.str x,.str y=>okB (Txt.startswith x y)
 |_,_=>none
def gg:List D->Option (List Str)
 |[]=>some []
 |.str z::r=>(gg r).map (z::·)
 |_::_=>none
def dh(x y:D):Option R:=match x,y with
 |.str x,.lst ds=>(gg ds).bind λzs=>if JoinOk x zs=true then okD (.str (Txt.join x zs)) else none
 |_,_=>none
def nJ(x:D):Option R:=match x with
 |.str z=>if z.length<=640 then(PySem.intText? z).bind λn=>okI n else none
 |_=>none
def pF(x:D):Option R:=match x with
 |.int i=>if i.natAbs.log2<1920 then okD (.str (Str.ofString (toString i))) else none
 |_=>none
def dB(f:D->D->Option R)(go ge:ME):ME:=λρ=>aQ (go ρ) λx=>match x with
 |.str z=>aQ (ge ρ) λy=>f (.str z) y
 |_=>none
theorem B5{f:D->D->Option R}{ge:ME}{ρ:aA}{d:D}{r:R} (h:(match d with
 |.str z=>aQ (ge ρ) λy=>f (.str z) y
 |_=>none)=some r):∃z,d=.str z/\(aQ (ge ρ) λy=>f (.str z) y)=some r:=by
 split at h
 ·exact⟨_,rfl,h⟩
 ·cases h
theorem FT{x:Str}{c:Nat}(h:x.cps.toList=[c]):x=⟨#[c]⟩:=by
 obtain⟨cps⟩:=x;congr 1;exact Array.toList_inj.mp h
theorem Ag{neg:Bool}{x y:D}{r:R}(h:Em neg x y=some r):∃c z,x=sgn c/\y=.str z/\r=.ok (.sh (.bl (if neg then !decide (c∈z.cps.toList) else decide (c∈z.cps.toList)))):=by
 unfold Em at h;split at h
 ·split at h
  ·rename_i z hc c e;cases h;exact⟨c,_,by rw[FT e],rfl,rfl⟩
  ·cases h
 ·cases h
theorem Ae{x:D}{lo hi:Option Int}{r:R}(h:El x lo hi=some r):∃z,x=.str z/\z.length<=lim/\r=.ok (.sh (.str (Txt.slice z lo hi))):=by
 unfold El at h;split at h
 ·split at h
  ·rename_i z hl;cases h;exact⟨z,rfl,hl,rfl⟩
  ·cases h
 ·cases h
theorem tN{x y:D}{r:R}(h:kf x y=some r):∃a b,x=.str a/\y=.str b/\r=.ok (.sh (.bl (Txt.startswith a b))):=by
 unfold kf at h;split at h
 ·cases h;exact⟨_,_,rfl,rfl,rfl⟩
 ·cases h
theorem kQ:∀{ds:List D}{zs:List Str},gg ds=some zs->ds=zs.map D.str
 |[],zs,h=>by cases h;rfl
 |.str z::r,zs,h=>by
  have h:(gg r).map (z::·)=some zs:=h;cases e:gg r with
  |none=>rw[e] at h;cases h
  |some l=>rw[e] at h;cases h;rw[kQ e];rfl
 |.non::_,_,h=>by cases h
 |.bl _::_,_,h=>by cases h
 |.int _::_,_,h=>by cases h
 |.tup _::_,_,h=>by cases h
 |.lst _::_,_,h=>by cases h
 |.fn _ _::_,_,h=>by cases h
 |.obj _ _ _::_,_,h=>by cases h
theorem iX:∀zs:List Str,gg (zs.map D.str)=some zs
 |[]=>rfl
 |z::zs=>by show(gg (zs.map D.str)).map (z::·)=_;rw[iX zs];rfl
theorem w4{x y:D}{r:R}(h:dh x y=some r):∃a zs,x=.str a/\y=.lst (zs.map D.str)/\JoinOk a zs=true/\r=.ok (.sh (.str (Txt.join a zs))):=by
 unfold dh at h;split at h
 ·rename_i a ds;cases e:gg ds with
  |none=>rw[e] at h;cases h
  |some zs=>
   rw[e] at h;dsimp only[Option.bind_some] at h;split at h
   ·rename_i hj;cases h;exact⟨a,zs,rfl,by rw[kQ e],hj,rfl⟩
   ·cases h
 ·cases h
theorem xR{x:D}{r:R}(h:nJ x=some r):∃z n,x=.str z/\z.length<=640/\PySem.intText? z=some n/\r=.ok (.sh (.int n)):=by
 unfold nJ at h;split at h
 ·rename_i z;split at h
  ·rename_i hl;cases e:PySem.intText? z with
   |none=>rw[e] at h;cases h
   |some n=>rw[e] at h;cases h;exact⟨z,n,rfl,hl,e,rfl⟩
  ·cases h
 ·cases h
theorem xP{x:D}{r:R}(h:pF x=some r):∃i,x=.int i/\i.natAbs.log2<1920/\r=.ok (.sh (.str (Str.ofString (toString i)))):=by
 unfold pF at h;split at h
 ·split at h
  ·rename_i i hl;cases h;exact⟨i,rfl,hl,rfl⟩
  ·cases h
 ·cases h
def O.core:O->O
 |.par _ o=>o
 |o=>o
def O.put:O->O->O
 |.par a _,o'=>.par a o'
 |_,o'=>o'
abbrev MF:=O->List D->List D->Option (D×O)
def kR(n a:Nat)(o:O)(ds es:List D):aA:=(eM n (ds++.non::es)).set ds.length (some (.own (.par a o)))
def m9(j a:Nat):Option kh->Option (D×O)
 |some (.ret (.two d b o))=>if b=a then some (d,o) else none
 |some (.next ρ)=>match ρ[j]? with
  |some (some (.own (.par b o)))=>if b=a then some (.non,o) else none
  |_=>none
 |_=>none
open Classical in
noncomputable def A9(j np n:Nat)(g:MC):MF:=λo ds es=>if ds.length=j/\j+1+es.length=np then(if h:∃r,∀a,m9 j a (g (kR n a o ds es))=some r then some h.choose else none) else none
theorem vT{j np n:Nat}{g:MC}{o:O}{ds es:List D}{r:D×O}(h:A9 j np n g o ds es=some r):ds.length=j/\j+1+es.length=np/\∀a,m9 j a (g (kR n a o ds es))=some r:=by
 unfold A9 at h;split at h
 ·rename_i c;split at h
  ·rename_i x;cases h;exact⟨c.1,c.2,x.choose_spec⟩
  ·cases h
 ·cases h
theorem rg{j np n:Nat}{g:MC}{o:O}{ds es:List D}{r:D×O}(h1:ds.length=j)(h2:j+1+es.length=np)(h:∀a,m9 j a (g (kR n a o ds es))=some r):A9 j np n g o ds es=some r:=by
 unfold A9;rw[if_pos ⟨h1,h2⟩];have x:∃r,∀a,m9 j a (g (kR n a o ds es))=some r:=⟨r,h⟩;rw[dif_pos x,<-h 0,x.choose_spec 0]
abbrev MP:=aA->Option (D×aA)
def yE(i:Nat)(F:MF)(gs hs:List ME):MP:=λρ=>match ρ[i]? with
 |some (some (.own o))=>(fD gs ρ).bind λds=>(fD hs ρ).bind λes=>(F o.core ds es).map λp=>(p.1,ρ.set i (some (.own (o.put p.2))))
 |_=>none
def gE(j:Nat)(e:ME):MC:=λρ=>h7 (e ρ) λs=>match ρ[j]? with
 |some (some (.own (.par a o)))=>some (.ret (.two s.val a o))
 |_=>none
def kU:MC:=λ_=>none
noncomputable section
end
def jN(f:D->D->Option Bool):List D->List D->Option Bool
 |[],[]=>some true
 |x::xs,y::ys=>(f x y).bind λb=>(jN f xs ys).bind λc=>some (b && c)
 |_,_=>some false
def pU:Nat->D->D->Option Bool
 |0,_,_=>none
 |_+1,.int i,.int j=>some (i == j)
 |_+1,.str x,.str y=>some (x == y)
 |n+1,.tup xs,.tup ys=>jN (pU n) xs ys
 |n+1,.lst xs,.lst ys=>if xs.length=ys.length then jN (pU n) xs ys else some false
 |_+1,_,_=>none
theorem mw(f:D->D->Option Bool):∀(xs ys:List D)(b:Bool),jN f xs ys=some b->b=((List.range (min xs.length ys.length)).all (λj=>((xs[j]?).bind λx=>(ys[j]?).bind λy=>f x y) == some true) && (xs.length == ys.length))
 |[],[],b,h=>by cases h;rfl
 |[],_::_,b,h=>by cases h;rfl
 |_::_,[],b,h=>by cases h;rfl
 |x::xs,y::ys,b,h=>by
  have h:(f x y).bind (λb=>(jN f xs ys).bind λc=>some (b && c))=some b:=h;cases h1:f x y with
  |none=>rw[h1] at h;cases h
  |some b1=>
   rw[h1] at h;cases h2:jN f xs ys with
   |none=>rw[h2] at h;cases h
   |some b2=>
    rw[h2] at h;cases h;rw[mw f xs ys b2 h2,length_cons,length_cons,Nat.succ_min_succ,List.range_succ_eq_map,List.all_cons,List.all_map];have e0:(((x::xs)[0]?).bind λx=>((y::ys)[0]?).bind λy=>f x y)=some b1:=h1;rw[e0];have e1:((xs.length+1 == ys.length+1):Bool)=(xs.length == ys.length):=by rw[Bool.eq_iff_iff,beq_iff_eq,beq_iff_eq];omega
    rw[e1];cases b1 with
    |true=>rfl
    |false=>rfl
theorem yR(f:D->D->Option Bool):∀(xs ys:List D)(b:Bool),jN f xs ys=some b->∀(j:Nat)(x y:D),xs[j]?=some x->ys[j]?=some y->∃c,f x y=some c
 |[],ys,b,h,j,x,y,hx,hy=>by cases hx
 |_::_,[],b,h,j,x,y,hx,hy=>by cases hy
 |x::xs,y::ys,b,h,j,x',y',hx,hy=>by
  have h:(f x y).bind (λb=>(jN f xs ys).bind λc=>some (b && c))=some b:=h;cases h1:f x y with
  |none=>rw[h1] at h;cases h
  |some b1=>
   rw[h1] at h;cases h2:jN f xs ys with
   |none=>rw[h2] at h;cases h
   |some b2=>
    cases j with
    |zero=>cases hx;cases hy;exact⟨b1,h1⟩
    |succ j=>exact yR f xs ys b2 h2 j x' y' hx hy
end L3
namespace L3
end L3
namespace L3
open PySem
end L3
namespace L3
open PySem PySem.Spec PyProof.Rows L2
def fY(H H':Hp):Prop:=∀b o,H b=some o->(∀x,o≠.own x)->H' b=some o
theorem iF{H H':Hp}(e:aj H H'):fY H H':=λb o h _=>e b o h
structure Ct where
 K:Frag
 cls:Vg->Q9
 clo:Nat->Hp->Q9->List V->Prop
 cloM:∀{k:Nat}{H H':Hp}{a:Q9}{xs:List V},fY H H'->clo k H a xs->clo k H' a xs
 tb:Hp
 opq:∀H a,clo DE H a []
def b8(K:Frag)(cls:Vg->Q9):Ct:=⟨K,cls,λk _ _ xs=>k=DE/\xs=[],λ_ h=>h,λ_=>none,λ_ _=>⟨rfl,rfl⟩⟩
mutual
def bI(Γ:Ct)(H:Hp):D->V->Prop
 |.non,v=>v=.non
 |.bl b,v=>v=.bl b
 |.int i,v=>v=.int i
 |.str x,v=>v=.str x
 |.tup ds,v=>∃a xs,v=.ref a/\jS Γ.K H a xs/\RepL Γ H ds xs
 |.lst ds,v=>∃a xs,v=.ref a/\fJ Γ.K H a xs/\RepL Γ H ds xs
 |.obj c ns ds,v=>∃a dx xs,v=.ref a/\H a=some (.ins (Γ.cls c) dx (ns.zip xs))/\RepL Γ H ds xs
 |.fn k ds,v=>∃a xs,v=.ref a/\Γ.clo k H a xs/\RepL Γ H ds xs
def RepL(Γ:Ct)(H:Hp):List D->List V->Prop
 |[],xs=>xs=[]
 |d::ds,xs=>∃x r,xs=x::r/\bI Γ H d x/\RepL Γ H ds r
end
theorem b9{K:Frag}{H H':Hp}{a:Q9}{xs:List V}(e:aj H H')(h:jS K H a xs):jS K H' a xs:=by
 rcases h with(h|⟨o,h⟩)|h
 ·exact .inl (.inl (e _ _ h))
 ·exact .inl (.inr ⟨o,e _ _ h⟩)
 ·exact .inr h
theorem Hk{K:Frag}{H H':Hp}{a:Q9}{xs:List V}(e:fY H H')(h:jS K H a xs):jS K H' a xs:=by
 rcases h with(h|⟨o,h⟩)|h
 ·exact .inl (.inl (e _ _ h λ_=>nofun))
 ·exact .inl (.inr ⟨o,e _ _ h λ_=>nofun⟩)
 ·exact .inr h
theorem Hl{K:Frag}{H H':Hp}{a:Q9}{xs:List V}(e:fY H H')(h:fJ K H a xs):fJ K H' a xs:=by
 rcases h with(h|⟨o,h⟩)|h
 ·exact .inl (.inl (e _ _ h λ_=>nofun))
 ·exact .inl (.inr ⟨o,e _ _ h λ_=>nofun⟩)
 ·exact .inr h
mutual
theorem bI.monoX{Γ:Ct}{H H':Hp}(e:fY H H'):∀{d:D}{v:V},bI Γ H d v->bI Γ H' d v
 |.non,_,r=>by unfold bI at r ⊢;exact r
 |.bl _,_,r=>by unfold bI at r ⊢;exact r
 |.int _,_,r=>by unfold bI at r ⊢;exact r
 |.str _,_,r=>by unfold bI at r ⊢;exact r
 |.tup ds,_,r=>by
  unfold bI at r ⊢;obtain⟨a,xs,e1,q,r⟩:=r;exact⟨a,xs,e1,Hk e q,RepL.monoX e r⟩
 |.lst ds,_,r=>by
  unfold bI at r ⊢;obtain⟨a,xs,e1,q,r⟩:=r;exact⟨a,xs,e1,Hl e q,RepL.monoX e r⟩
 |.obj c ns ds,_,r=>by
  unfold bI at r ⊢;obtain⟨a,dx,xs,e1,q,r⟩:=r;exact⟨a,dx,xs,e1,e _ _ q (λ_=>nofun),RepL.monoX e r⟩
 |.fn k ds,_,r=>by
  unfold bI at r ⊢;obtain⟨a,xs,e1,q,r⟩:=r;exact⟨a,xs,e1,Γ.cloM e q,RepL.monoX e r⟩
theorem RepL.monoX{Γ:Ct}{H H':Hp}(e:fY H H'):∀{ds:List D}{xs:List V},RepL Γ H ds xs->RepL Γ H' ds xs
 |[],_,r=>by unfold RepL at r ⊢;exact r
 |d::ds,_,r=>by
  unfold RepL at r ⊢;obtain⟨x,r',e1,q,r2⟩:=r;exact⟨x,r',e1,bI.monoX e q,RepL.monoX e r2⟩
end
theorem bI.mono{Γ:Ct}{H H':Hp}(e:aj H H'){d:D}{v:V}(r:bI Γ H d v):bI Γ H' d v:=r.monoX (iF e)
theorem RepL.mono{Γ:Ct}{H H':Hp}(e:aj H H'){ds:List D}{xs:List V}(r:RepL Γ H ds xs):RepL Γ H' ds xs:=r.monoX (iF e)
section
variable{Γ:Ct}{H H':Hp}
theorem bw{v:V}:bI Γ H .non v↔v=.non:=by unfold bI;exact Iff.rfl
theorem aw{b:Bool}{v:V}:bI Γ H (.bl b) v↔v=.bl b:=by unfold bI;exact Iff.rfl
theorem ah{i:Int}{v:V}:bI Γ H (.int i) v↔v=.int i:=by unfold bI;exact Iff.rfl
theorem ar{x:Str}{v:V}:bI Γ H (.str x) v↔v=.str x:=by unfold bI;exact Iff.rfl
theorem aS{ds:List D}{v:V}:bI Γ H (.tup ds) v↔∃a xs,v=.ref a/\jS Γ.K H a xs/\RepL Γ H ds xs:=by
 constructor
 ·intro h;unfold bI at h;exact h
 ·intro h;unfold bI;exact h
theorem aH{ds:List D}{v:V}:bI Γ H (.lst ds) v↔∃a xs,v=.ref a/\fJ Γ.K H a xs/\RepL Γ H ds xs:=by
 constructor
 ·intro h;unfold bI at h;exact h
 ·intro h;unfold bI;exact h
theorem jT{c:Vg}{ns:List Str}{ds:List D}{v:V}:bI Γ H (.obj c ns ds) v↔∃a dx xs,v=.ref a/\H a=some (.ins (Γ.cls c) dx (ns.zip xs))/\RepL Γ H ds xs:=by
 constructor
 ·intro h;unfold bI at h;exact h
 ·intro h;unfold bI;exact h
theorem sH{k:Nat}{ds:List D}{v:V}:bI Γ H (.fn k ds) v↔∃a xs,v=.ref a/\Γ.clo k H a xs/\RepL Γ H ds xs:=by
 constructor
 ·intro h;unfold bI at h;exact h
 ·intro h;unfold bI;exact h
theorem bz{xs:List V}:RepL Γ H [] xs↔xs=[]:=by unfold RepL;exact Iff.rfl
theorem aK{d:D}{ds:List D}{xs:List V}:RepL Γ H (d::ds) xs↔∃x r,xs=x::r/\bI Γ H d x/\RepL Γ H ds r:=by
 constructor
 ·intro h;unfold RepL at h;exact h
 ·intro h;unfold RepL;exact h
theorem RepL.nil:RepL Γ H [] []:=bz.mpr rfl
theorem RepL.cons{d:D}{ds:List D}{x:V}{xs:List V}(h:bI Γ H d x)(t:RepL Γ H ds xs):RepL Γ H (d::ds) (x::xs):=aK.mpr ⟨x,xs,rfl,h,t⟩
theorem RepL.length:∀{ds:List D}{xs:List V},RepL Γ H ds xs->ds.length=xs.length
 |[],xs,h=>by rw[bz.mp h];rfl
 |d::ds,xs,h=>by
  obtain⟨x,r,e,_,t⟩:=aK.mp h;rw[e,length_cons,length_cons,RepL.length t]
theorem RepL.append:∀{ds es:List D}{xs ys:List V},RepL Γ H ds xs->RepL Γ H es ys->RepL Γ H (ds++es) (xs++ys)
 |[],es,xs,ys,h,h'=>by rw[bz.mp h];exact h'
 |d::ds,es,xs,ys,h,h'=>by
  obtain⟨x,r,e,q,t⟩:=aK.mp h;rw[e];exact .cons q (RepL.append t h')
theorem RepL.get:∀{ds:List D}{xs:List V}{i:Nat}{d:D},RepL Γ H ds xs->ds[i]?=some d->∃x,xs[i]?=some x/\bI Γ H d x
 |[],xs,i,d,h,e=>by simp at e
 |d::ds,xs,0,d',h,e=>by
  obtain⟨x,r,e1,q,t⟩:=aK.mp h;simp at e;subst e e1;exact⟨x,rfl,q⟩
 |d::ds,xs,i+1,d',h,e=>by
  obtain⟨x,r,e1,q,t⟩:=aK.mp h;obtain⟨y,e2,q2⟩:=RepL.get (i:=i) t (by simpa using e)
  subst e1;exact⟨y,by simpa using e2,q2⟩
theorem RepL.take:∀{ds:List D}{xs:List V}(n:Nat),RepL Γ H ds xs->RepL Γ H (ds.take n) (xs.take n)
 |_,_,0,_=>.nil
 |[],xs,n+1,h=>by rw[bz.mp h];exact .nil
 |d::ds,xs,n+1,h=>by
  obtain⟨x,r,e,q,t⟩:=aK.mp h;subst e;exact .cons q (RepL.take n t)
theorem RepL.drop:∀{ds:List D}{xs:List V}(n:Nat),RepL Γ H ds xs->RepL Γ H (ds.drop n) (xs.drop n)
 |_,_,0,h=>h
 |[],xs,n+1,h=>by rw[bz.mp h];exact .nil
 |d::ds,xs,n+1,h=>by
  obtain⟨x,r,e,q,t⟩:=aK.mp h;subst e;exact RepL.drop n t
theorem RepL.set{d:D}{x:V}(q:bI Γ H d x):∀{ds:List D}{xs:List V}(i:Nat),RepL Γ H ds xs->RepL Γ H (ds.set i d) (xs.set i x)
 |[],xs,i,h=>by rw[bz.mp h];exact .nil
 |e::ds,xs,0,h=>by
  obtain⟨y,r,e1,_,t⟩:=aK.mp h;subst e1;exact .cons q t
 |e::ds,xs,i+1,h=>by
  obtain⟨y,r,e1,q1,t⟩:=aK.mp h;subst e1;exact .cons q1 (RepL.set q i t)
theorem RepL.ints:∀(ns:List Int),RepL Γ H (ns.map D.int) (ns.map V.int)
 |[]=>.nil
 |n::ns=>.cons (ah.mpr rfl) (RepL.ints ns)
theorem RepL.intsOf:∀{ds:List D}{xs:List V}{ns:List Int},RepL Γ H ds xs->intsOf ds=some ns->xs=ns.map V.int
 |[],xs,ns,h,e=>by
  cases e;exact bz.mp h
 |.int i::ds,xs,ns,h,e=>by
  obtain⟨x,r,e1,q,t⟩:=aK.mp h;unfold L3.intsOf at e;cases e2:L3.intsOf ds with
  |none=>rw[e2] at e;cases e
  |some ms=>
   rw[e2] at e;cases e;rw[e1,ah.mp q,RepL.intsOf t e2,map_cons]
 |.non::ds,xs,ns,h,e=>by cases e
 |.bl _::ds,xs,ns,h,e=>by cases e
 |.str _::ds,xs,ns,h,e=>by cases e
 |.tup _::ds,xs,ns,h,e=>by cases e
 |.lst _::ds,xs,ns,h,e=>by cases e
 |.fn _ _::ds,xs,ns,h,e=>by cases e
 |.obj _ _ _::ds,xs,ns,h,e=>by cases e
theorem RepL.blsOf:∀{ds:List D}{xs:List V}{ns:List Bool},RepL Γ H ds xs->blsOf ds=some ns->xs=ns.map V.bl
 |[],xs,ns,h,e=>by
  cases e;exact bz.mp h
 |.bl i::ds,xs,ns,h,e=>by
  obtain⟨x,r,e1,q,t⟩:=aK.mp h;unfold L3.blsOf at e;cases e2:L3.blsOf ds with
  |none=>rw[e2] at e;cases e
  |some ms=>
   rw[e2] at e;cases e;rw[e1,aw.mp q,RepL.blsOf t e2,map_cons]
 |.non::ds,xs,ns,h,e=>by cases e
 |.int _::ds,xs,ns,h,e=>by cases e
 |.str _::ds,xs,ns,h,e=>by cases e
 |.tup _::ds,xs,ns,h,e=>by cases e
 |.lst _::ds,xs,ns,h,e=>by cases e
 |.fn _ _::ds,xs,ns,h,e=>by cases e
 |.obj _ _ _::ds,xs,ns,h,e=>by cases e
theorem Bi{d:D}{v:V}(h:bI Γ H d v)(f:flat d=true):bI Γ H' d v:=by
 cases d with
 |non=>exact bw.mpr (bw.mp h)
 |bl _=>exact aw.mpr (aw.mp h)
 |int _=>exact ah.mpr (ah.mp h)
 |str _=>exact ar.mpr (ar.mp h)
 |_=>cases f
end
def JP(kvs:List (List Int×Int)):List (List Key×V):=kvs.map λp=>(p.1.map Sum.inl,V.int p.2)
mutual
def hU(Γ:Ct)(H:Hp):Tr->V->List (Q9×List V)->Prop
 |.sh d,v,T=>T=[]/\bI Γ H d v
 |.lst ts,v,T=>∃l vs T',v=.ref l/\T=(l,vs)::T'/\ai Γ H ts vs T'
 |.ins _ _ _,_,_=>False
def ai(Γ:Ct)(H:Hp):List Tr->List V->List (Q9×List V)->Prop
 |[],vs,T=>vs=[]/\T=[]
 |t::ts,vs,T=>∃v r T1 T2,vs=v::r/\T=T1++T2/\hU Γ H t v T1/\ai Γ H ts r T2
end
mutual
theorem hU.monoX{Γ:Ct}{H H':Hp}(e:fY H H'):∀{t:Tr}{v:V}{T:List (Q9×List V)},hU Γ H t v T->hU Γ H' t v T
 |.sh d,_,_,r=>by unfold hU at r ⊢;exact⟨r.1,r.2.monoX e⟩
 |.lst ts,_,_,r=>by
  unfold hU at r ⊢;obtain⟨l,vs,T',h1,h2,h3⟩:=r;exact⟨l,vs,T',h1,h2,ai.monoX e h3⟩
 |.ins _ _ _,_,_,r=>by unfold hU at r;exact r.elim
theorem ai.monoX{Γ:Ct}{H H':Hp}(e:fY H H'):∀{ts:List Tr}{vs:List V}{T:List (Q9×List V)},ai Γ H ts vs T->ai Γ H' ts vs T
 |[],_,_,r=>by unfold ai at r ⊢;exact r
 |t::ts,_,_,r=>by
  unfold ai at r ⊢;obtain⟨v,r',T1,T2,h1,h2,h3,h4⟩:=r;exact⟨v,r',T1,T2,h1,h2,hU.monoX e h3,ai.monoX e h4⟩
end
def jf(Γ:Ct)(H:Hp):Tr->HO->List (Q9×List V)->Prop
 |.sh _,_,_=>False
 |.lst ts,u,T=>∃xs,u=.lst xs/\ai Γ H ts xs T
 |.ins c ns ts,u,T=>∃dx xs,u=.ins (Γ.cls c) dx (ns.zip xs)/\ai Γ H ts xs T
theorem jf.monoX{Γ:Ct}{H H':Hp}(e:fY H H'){t:Tr}{u:HO}{T:List (Q9×List V)}(h:jf Γ H t u T):jf Γ H' t u T:=by
 cases t with
 |sh _=>exact h
 |lst ts=>obtain⟨xs,h1,h2⟩:=h;exact⟨xs,h1,h2.monoX e⟩
 |ins c ns ts=>obtain⟨dx,xs,h1,h2⟩:=h;exact⟨dx,xs,h1,h2.monoX e⟩
def u9(Γ:Ct)(Hs:Hp):O->HO->Prop
 |.lst ds,ho=>∃xs,ho=.lst xs/\RepL Γ Hs ds xs
 |.obj c ns ds,ho=>∃dx xs,ho=.ins (Γ.cls c) dx (ns.zip xs)/\RepL Γ Hs ds xs
 |.dic _,_=>False
 |.par _ _,_=>False
 |.fdic _,_=>False
 |.tab _,_=>False
 |.tre t,ho=>∃u T,ho=.big u T/\jf Γ Hs t u T
 |.dik kvs,ho=>ho=.dK (kvs.map λp=>(Sum.inl p.1,V.int p.2))
def cQ(Γ:Ct)(Hs:Hp)(a:Q9):O->HO->Prop
 |.lst ds,ho=>∃xs,ho=.lst xs/\RepL Γ Hs ds xs
 |.obj c ns ds,ho=>∃dx xs,ho=.ins (Γ.cls c) dx (ns.zip xs)/\RepL Γ Hs ds xs
 |.dic kvs,ho=>ho=.dT (JP kvs)
 |.par b o,ho=>a=b/\cQ Γ Hs a o ho
 |.fdic kvs,ho=>∃ob,ho=.frz ob (.dT (JP kvs))
 |.tab _,_=>False
 |.tre t,ho=>∃u T,ho=.big u T/\jf Γ Hs t u T
 |.dik kvs,ho=>ho=.dK (kvs.map λp=>(Sum.inl p.1,V.int p.2))
theorem u9.w{Γ:Ct}{H:Hp}{o:O}{ho:HO}{a:Q9}(h:u9 Γ H o ho):cQ Γ H a o ho:=by
 cases o with
 |lst ds=>exact h
 |obj c ns ds=>exact h
 |tre _=>exact h
 |dik _=>exact h
 |_=>exact h.elim
theorem cQ.o{Γ:Ct}{H:Hp}{o:O}{ho:HO}{a:Q9}(h:cQ Γ H a o ho)(n:∀kvs,o≠.dic kvs)(n2:∀b u,o≠.par b u)(n3:∀kvs,o≠.fdic kvs)(n4:∀kvs,o≠.tab kvs)(n5:∀t,o≠.tre t):u9 Γ H o ho:=by
 cases o with
 |lst ds=>exact h
 |obj c ns ds=>exact h
 |dic kvs=>exact(n kvs rfl).elim
 |par b u=>exact(n2 b u rfl).elim
 |fdic kvs=>exact(n3 kvs rfl).elim
 |tab kvs=>exact(n4 kvs rfl).elim
 |tre t=>exact(n5 t rfl).elim
 |dik _=>exact h
theorem cQ.monoX{Γ:Ct}{H H':Hp}(e:fY H H'){a:Q9}:∀{o:O}{ho:HO},cQ Γ H a o ho->cQ Γ H' a o ho
 |.lst ds,_,h=>by obtain⟨xs,e1,r⟩:=h;exact⟨xs,e1,r.monoX e⟩
 |.obj c ns ds,_,h=>by obtain⟨dx,xs,e1,r⟩:=h;exact⟨dx,xs,e1,r.monoX e⟩
 |.dic _,_,h=>h
 |.par b o,_,h=>⟨h.1,cQ.monoX e h.2⟩
 |.fdic _,_,h=>h
 |.tab _,_,h=>h
 |.tre _,_,h=>by obtain⟨u,T,e1,r⟩:=h;exact⟨u,T,e1,r.monoX e⟩
 |.dik _,_,h=>h
theorem cQ.mono{Γ:Ct}{H H':Hp}(e:aj H H'){a:Q9}{o:O}{ho:HO}(h:cQ Γ H a o ho):cQ Γ H' a o ho:=h.monoX (iF e)
theorem u9.mono{Γ:Ct}{H H':Hp}(e:aj H H'){o:O}{ho:HO}(h:u9 Γ H o ho):u9 Γ H' o ho:=by
 cases o with
 |dic _=>exact h.elim
 |par _ _=>exact h.elim
 |fdic _=>exact h.elim
 |tab _=>exact h.elim
 |tre _=>obtain⟨u,T,e1,r⟩:=h;exact⟨u,T,e1,r.monoX (iF e)⟩
 |dik _=>exact h
 |lst ds=>obtain⟨xs,e1,r⟩:=h;exact⟨xs,e1,r.mono e⟩
 |obj c ns ds=>obtain⟨dx,xs,e1,r⟩:=h;exact⟨dx,xs,e1,r.mono e⟩
theorem u9.val{Γ:Ct}{H:Hp}{o:O}{ho:HO}{a:Q9}(h:u9 Γ H o ho)(e:H a=some ho):bI Γ H o.val (.ref a):=by
 cases o with
 |dic _=>exact h.elim
 |par _ _=>exact h.elim
 |fdic _=>exact h.elim
 |tab _=>exact h.elim
 |lst ds=>obtain⟨xs,e1,r⟩:=h;subst e1;exact aH.mpr ⟨a,xs,rfl,.of e,r⟩
 |obj c ns ds=>obtain⟨dx,xs,e1,r⟩:=h;subst e1;exact jT.mpr ⟨a,dx,xs,rfl,e,r⟩
 |_=>exact sH.mpr ⟨a,[],rfl,Γ.opq H a,.nil⟩
structure bt(Hs H Hs' H':Hp):Prop where
 s:aj Hs Hs'
 h:aj H H'
 i:aj Hs' H'
 n:∀b o,Hs' b=some o->Hs b=some o\/H b=none
theorem bt.refl{Hs H:Hp}(e:aj Hs H):bt Hs H Hs H:=⟨.refl _,.refl _,e,λ_ _ q=>.inl q⟩
theorem bt.trans{Hs H Hs1 H1 Hs2 H2:Hp}(a:bt Hs H Hs1 H1)(b:bt Hs1 H1 Hs2 H2):bt Hs H Hs2 H2:=
 ⟨a.s.trans b.s,a.h.trans b.h,b.i,λc o q=>(b.n c o q).elim (λz=>a.n c o z) λz=>.inr (a.h.free z)⟩
theorem bt.only{Hs H H':Hp}(e:aj Hs H)(k:aj H H'):bt Hs H Hs H':=⟨.refl _,k,e.trans k,λ_ _ q=>.inl q⟩
theorem bJ{H:Hp}{p:Q9}{o:HO}(h:H p=none):aj H (bW H p o):=λb u e=>by rw[ak (bc e h)];exact e
theorem bt.new{Hs H:Hp}{p:Q9}{o:HO}(e:aj Hs H)(h:H p=none):bt Hs H (bW Hs p o) (bW H p o):=
 ⟨bJ (e.free h),bJ h,λb u q=>by
  by_cases hb:b=p
  ·subst hb;rw[aF] at q ⊢;exact q
  ·rw[ak hb] at q ⊢;exact e _ _ q,λb u q=>by
  by_cases hb:b=p
  ·subst hb;exact .inr h
  ·rw[ak hb] at q;exact .inl q⟩
theorem bt.newOwn{Hs H:Hp}{p:Q9}{o:HO}(e:aj Hs H)(h:H p=none):bt Hs H Hs (bW H p o):=.only e (bJ h)
theorem bt.share{Hs H Hs' H':Hp}{a:Q9}{ho:HO}(g:bt Hs H Hs' H')(h0:H a=none)(h1:Hs' a=none)(h2:H' a=some ho):bt Hs H (bW Hs' a ho) H'/\aj Hs' (bW Hs' a ho):=
 ⟨⟨g.s.trans (bJ h1),g.h,λb u q=>by
  by_cases hb:b=a
  ·subst hb;rw[aF] at q;cases q;exact h2
  ·rw[ak hb] at q;exact g.i _ _ q,λb u q=>by
  by_cases hb:b=a
  ·subst hb;exact .inr h0
  ·rw[ak hb] at q;exact g.n _ _ q⟩,bJ h1⟩
inductive JD(Γ:Ct)(H Hs' H':Hp)(o:O)(v:V):Prop
 |mk (a:Q9) (ho:HO) (ev:v=.ref a) (h0:H a=none) (h1:Hs' a=none) (h2:H' a=some ho) (q:u9 Γ Hs' o ho)
def cW(Γ:Ct)(H Hs' H':Hp):S->V->Prop
 |.sh d,v=>bI Γ Hs' d v
 |.own o,v=>JD Γ H Hs' H' o v
 |.two d a o,v=>bI Γ Hs' d v/\∃ho,Hs' a=none/\H' a=some ho/\cQ Γ Hs' a o ho
 |.thr d a o b u,v=>bI Γ Hs' d v/\(∃ho,Hs' a=none/\H' a=some ho/\cQ Γ Hs' a o ho)/\∃ho,Hs' b=none/\H' b=some ho/\cQ Γ Hs' b u ho
theorem cW.of{Γ:Ct}{H Hs' H':Hp}{d:D}{v:V}(h:bI Γ Hs' d v):cW Γ H Hs' H' (.sh d) v:=h
theorem cW.share{Γ:Ct}{Hs H Hs' H':Hp}{s:S}{v:V}(g:bt Hs H Hs' H')(r:cW Γ H Hs' H' s v):∃Hs'',bt Hs H Hs'' H'/\aj Hs' Hs''/\bI Γ Hs'' s.val v:=by
 cases s with
 |sh d=>exact⟨Hs',g,.refl _,r⟩
 |own o=>
  obtain⟨a,ho,rfl,h0,h1,h2,q⟩:=r;obtain⟨g',e⟩:=g.share h0 h1 h2;exact⟨_,g',e,(q.mono e).val aF⟩
 |two d a o=>exact⟨Hs',g,.refl _,r.1⟩
 |thr d a o b u=>exact⟨Hs',g,.refl _,r.1⟩
theorem cW.look{Γ:Ct}{Hs H Hs' H':Hp}{s:S}{v:V}(g:bt Hs H Hs' H')(r:cW Γ H Hs' H' s v):bI Γ H' s.val v:=by
 cases s with
 |sh d=>exact bI.mono g.i r
 |own o=>
  obtain⟨a,ho,rfl,h0,h1,h2,q⟩:=r;exact(q.mono g.i).val h2
 |two d a o=>exact bI.mono g.i r.1
 |thr d a o b u=>exact bI.mono g.i r.1
theorem cW.back{Γ:Ct}{H H1 Hs' H':Hp}{s:S}{v:V}(k:aj H H1)(r:cW Γ H1 Hs' H' s v):cW Γ H Hs' H' s v:=by
 cases s with
 |sh d=>exact r
 |own o=>
  obtain⟨a,ho,e,h0,h1,h2,q⟩:=r;exact⟨a,ho,e,k.free h0,h1,h2,q⟩
 |two d a o=>exact r
 |thr d a o b u=>exact r
inductive Io(Γ:Ct)(B1 Hs H:Hp)(x:Option (Option V))(o:O):Prop
 |mk (a:Q9) (ho:HO) (e1:x=some (some (.ref a))) (e2:B1 a=none) (e3:Hs a=none) (e4:H a=some ho) (q:cQ Γ Hs a o ho)
structure RE(Γ:Ct)(B0 B1 Hs H:Hp)(σ:L2.St)(ρ:aA):Prop where
 b:bt B0 B1 Hs H
 sh:∀(i:Nat)(d:D),ρ[i]?=some (some (.sh d))->∃v,σ[i]?=some (some v)/\bI Γ Hs d v
 own:∀(i:Nat)(o:O),ρ[i]?=some (some (.own o))->Io Γ B1 Hs H σ[i]? o
 apart:∀(i j:Nat)(o u:O)(a:Q9),i≠j->ρ[i]?=some (some (.own o))->ρ[j]?=some (some (.own u))->σ[i]?=some (some (.ref a))->σ[j]?≠some (some (.ref a))
 len:ρ.length=σ.length
 tb:aj Γ.tb Hs
section
variable{Γ:Ct}{B0 B1 Hs H Hs' H':Hp}{σ:L2.St}{ρ:aA}
theorem RE.grow(r:RE Γ B0 B1 Hs H σ ρ)(g:bt Hs H Hs' H'):RE Γ B0 B1 Hs' H' σ ρ where
 tb:=r.tb.trans g.s
 b:=r.b.trans g
 sh:=λi d e=>let ⟨v,e1,q⟩:=r.sh i d e;⟨v,e1,q.mono g.s⟩
 own:=λi o e=>by
  obtain⟨a,ho,e1,e2,e3,e4,q⟩:=r.own i o e;refine⟨a,ho,e1,e2,?_,g.h _ _ e4,q.mono g.s⟩;cases z:Hs' a with
  |none=>rfl
  |some u=>
   rcases g.n a u z with z'|z'
   ·rw[e3] at z';cases z'
   ·rw[e4] at z';cases z'
 apart:=r.apart
 len:=r.len
theorem RE.setSh(r:RE Γ B0 B1 Hs H σ ρ){i:Nat}{d:D}{v:V}(hi:i<σ.length)(q:bI Γ Hs d v):RE Γ B0 B1 Hs H (σ.set i (some v)) (ρ.set i (some (.sh d))) where
 tb:=r.tb
 b:=r.b
 sh:=λj e hj=>by
  by_cases h:i=j
  ·subst h;rw[getElem?_set_self (by rw[r.len];exact hi)] at hj
   cases hj;exact⟨v,getElem?_set_self hi,q⟩
  ·rw[getElem?_set_ne h] at hj ⊢;exact r.sh j e hj
 own:=λj o hj=>by
  by_cases h:i=j
  ·subst h;rw[getElem?_set_self (by rw[r.len];exact hi)] at hj
   cases hj
  ·rw[getElem?_set_ne h] at hj ⊢;exact r.own j o hj
 apart:=λj k o u a hjk hj hk ha=>by
  have n1:i≠j:=λz=>by subst z;rw[getElem?_set_self (by rw[r.len];exact hi)] at hj;cases hj
  have n2:i≠k:=λz=>by subst z;rw[getElem?_set_self (by rw[r.len];exact hi)] at hk;cases hk
  rw[getElem?_set_ne n1] at hj ha;rw[getElem?_set_ne n2] at hk ⊢;exact r.apart j k o u a hjk hj hk ha
 len:=by rw[length_set,length_set,r.len]
theorem RE.setOwn(r:RE Γ B0 B1 Hs H σ ρ){i:Nat}{o:O}{a:Q9}{ho:HO}(hi:i<σ.length)(b1:B1 a=none)(h1:Hs a=none)(h2:H a=some ho)(q:cQ Γ Hs a o ho)
  (new:∀(j:Nat)(u:O),j≠i->ρ[j]?=some (some (.own u))->σ[j]?≠some (some (.ref a))):RE Γ B0 B1 Hs H (σ.set i (some (.ref a))) (ρ.set i (some (.own o))) where
 tb:=r.tb
 b:=r.b
 sh:=λj e hj=>by
  by_cases h:i=j
  ·subst h;rw[getElem?_set_self (by rw[r.len];exact hi)] at hj
   cases hj
  ·rw[getElem?_set_ne h] at hj ⊢;exact r.sh j e hj
 own:=λj u hj=>by
  by_cases h:i=j
  ·subst h;rw[getElem?_set_self (by rw[r.len];exact hi)] at hj
   cases hj;exact⟨a,ho,getElem?_set_self hi,b1,h1,h2,q⟩
  ·rw[getElem?_set_ne h] at hj ⊢;exact r.own j u hj
 apart:=λj k u u' c hjk hj hk ha=>by
  by_cases hij:i=j
  ·subst hij;rw[getElem?_set_self hi] at ha;cases ha;rw[getElem?_set_ne hjk] at hk ⊢;exact new k u' (Ne.symm hjk) hk
  ·rw[getElem?_set_ne hij] at hj ha;by_cases hik:i=k
   ·subst hik;rw[getElem?_set_self hi];intro z;cases z;exact new j u (Ne.symm hij) hj ha
   ·rw[getElem?_set_ne hik] at hk ⊢;exact r.apart j k u u' c hjk hj hk ha
 len:=by rw[length_set,length_set,r.len]
theorem RE.setS(r:RE Γ B0 B1 Hs H σ ρ)(g:bt Hs H Hs' H'){i:Nat}{s:S}{v:V}(hi:i<σ.length)(q:cW Γ H Hs' H' s v):RE Γ B0 B1 Hs' H' (σ.set i (some v)) (ρ.set i (some s)):=by
 cases s with
 |sh d=>exact(r.grow g).setSh hi q
 |own o=>
  obtain⟨a,ho,rfl,h0,h1,h2,q⟩:=q;refine(r.grow g).setOwn hi (r.b.h.free h0) h1 h2 q.w λj u _ hj z=>?_;obtain⟨c,hc,e1,_,_,e4,_⟩:=r.own j u hj;rw[z] at e1;cases e1;rw[h0] at e4;cases e4
 |two d a o=>
  have r1:=(r.grow g).setSh hi q.1;have key:∀(j:Nat)(s:S),(∀d a o,s≠.two d a o)->(ρ.set i (some (.two d a o)))[j]?=some (some s)->(ρ.set i (some (.sh d)))[j]?=some (some s):=λj s hn hj=>by
   by_cases h:i=j
   ·subst h;rw[getElem?_set_self (by rw[r.len];exact hi)] at hj
    cases hj;exact(hn _ _ _ rfl).elim
   ·rw[getElem?_set_ne h] at hj ⊢;exact hj
  exact⟨r1.b,λj e hj=>r1.sh j e (key j _ (λ_ _ _ z=>nomatch z) hj),λj u hj=>r1.own j u (key j _ (λ_ _ _ z=>nomatch z) hj),λj k u u' c hjk hj hk ha=>r1.apart j k u u' c hjk (key j _ (λ_ _ _ z=>nomatch z) hj) (key k _ (λ_ _ _ z=>nomatch z) hk) ha,by rw[length_set,length_set,r.len],r1.tb⟩
 |thr d a o b u=>
  have r1:=(r.grow g).setSh hi q.1;have key:∀(j:Nat)(s:S),(∀d a o b u,s≠.thr d a o b u)->(ρ.set i (some (.thr d a o b u)))[j]?=some (some s)->(ρ.set i (some (.sh d)))[j]?=some (some s):=λj s hn hj=>by
   by_cases h:i=j
   ·subst h;rw[getElem?_set_self (by rw[r.len];exact hi)] at hj
    cases hj;exact(hn _ _ _ _ _ rfl).elim
   ·rw[getElem?_set_ne h] at hj ⊢;exact hj
  exact⟨r1.b,λj e hj=>r1.sh j e (key j _ (λ_ _ _ _ _ z=>nomatch z) hj),λj u hj=>r1.own j u (key j _ (λ_ _ _ _ _ z=>nomatch z) hj),λj k u u' c hjk hj hk ha=>r1.apart j k u u' c hjk (key j _ (λ_ _ _ _ _ z=>nomatch z) hj) (key k _ (λ_ _ _ _ _ z=>nomatch z) hk) ha,by rw[length_set,length_set,r.len],r1.tb⟩
theorem RE.write(r:RE Γ B0 B1 Hs H σ ρ){i:Nat}{o o':O}{a:Q9}{ho':HO}(e:ρ[i]?=some (some (.own o)))(ea:σ[i]?=some (some (.ref a)))(q:cQ Γ Hs a o' ho'):RE Γ B0 B1 Hs (bW H a ho') σ (ρ.set i (some (.own o'))):=by
 obtain⟨c,ho,e1,e2,e3,e4,_⟩:=r.own i o e;rw[ea] at e1;cases e1;have hi:i<ρ.length:=(List.getElem?_eq_some_iff.mp e).1;refine⟨⟨r.b.s,λb u z=>?_,λb u z=>?_,r.b.n⟩,λj d hj=>?_,λj u hj=>?_,λj k u u' c hjk hj hk ha=>?_,by rw[length_set,r.len],r.tb⟩
 ·rw[ak (bc z e2)];exact r.b.h _ _ z
 ·rw[ak (bc z e3)];exact r.b.i _ _ z
 ·by_cases h:i=j
  ·subst h;rw[getElem?_set_self hi] at hj;cases hj
  ·rw[getElem?_set_ne h] at hj;exact r.sh j d hj
 ·by_cases h:i=j
  ·subst h;rw[getElem?_set_self hi] at hj;cases hj;exact⟨a,ho',ea,e2,e3,aF,q⟩
  ·rw[getElem?_set_ne h] at hj;obtain⟨c,hc,f1,f2,f3,f4,f5⟩:=r.own j u hj;refine⟨c,hc,f1,f2,f3,?_,f5⟩;rw[ak]
   ·exact f4
   ·intro z;subst z;exact r.apart i j o u c h e hj ea f1
 ·have old:∀(m:Nat)(u:O),(ρ.set i (some (.own o')))[m]?=some (some (.own u))->∃u',ρ[m]?=some (some (.own u')):=λm u hm=>by
   by_cases h:i=m
   ·subst h;exact⟨o,e⟩
   ·rw[getElem?_set_ne h] at hm;exact⟨u,hm⟩
  obtain⟨x,hx⟩:=old j u hj;obtain⟨y,hy⟩:=old k u' hk;exact r.apart j k x y c hjk hx hy ha
theorem RE.dem(r:RE Γ B0 B1 Hs H σ ρ)(i:Nat):∃Hs',aj Hs Hs'/\RE Γ B0 B1 Hs' H σ (dem i ρ):=by
 unfold L3.dem;split
 ·exact⟨Hs,.refl _,r⟩
 ·exact⟨Hs,.refl _,r⟩
 ·exact⟨Hs,.refl _,r⟩
 ·exact⟨Hs,.refl _,r⟩
 ·exact⟨Hs,.refl _,r⟩
 ·rename_i o hno hno2 hno3 hno4 hno5 e;obtain⟨a,ho,e1,e2,e3,e4,q⟩:=r.own i o e;have q:=q.o (λkvs z=>by subst z;exact hno kvs rfl) (λb u z=>by subst z;exact hno2 b u rfl) (λkvs z=>by subst z;exact hno3 kvs rfl) (λkvs z=>by subst z;exact hno4 kvs rfl) λt z=>by subst z;exact hno5 t rfl
  have hi:i<ρ.length:=(List.getElem?_eq_some_iff.mp e).1;have sm:aj Hs (bW Hs a ho):=bJ e3;have sh':aj (bW Hs a ho) H:=λb u z=>by
   by_cases hb:b=a
   ·subst hb;rw[aF] at z;cases z;exact e4
   ·rw[ak hb] at z;exact r.b.i _ _ z
  refine⟨bW Hs a ho,sm,⟨⟨r.b.s.trans sm,r.b.h,sh',λb u z=>?_⟩,λj d hj=>?_,λj u hj=>?_,λj k u u' c hjk hj hk ha=>?_,by rw[length_set,r.len],r.tb.trans sm⟩⟩
  ·by_cases hb:b=a
   ·subst hb;exact .inr e2
   ·rw[ak hb] at z;exact r.b.n _ _ z
  ·by_cases h:i=j
   ·subst h;rw[getElem?_set_self hi] at hj;cases hj;exact⟨.ref a,e1,(q.mono sm).val aF⟩
   ·rw[getElem?_set_ne h] at hj;obtain⟨v,f1,f2⟩:=r.sh j d hj;exact⟨v,f1,f2.mono sm⟩
  ·by_cases h:i=j
   ·subst h;rw[getElem?_set_self hi] at hj;cases hj
   ·rw[getElem?_set_ne h] at hj;obtain⟨c,hc,f1,f2,f3,f4,f5⟩:=r.own j u hj;refine⟨c,hc,f1,f2,?_,f4,f5.mono sm⟩;rw[ak]
    ·exact f3
    ·intro z;subst z;exact r.apart i j o u c h e hj e1 f1
  ·have n1:i≠j:=λz=>by subst z;rw[getElem?_set_self hi] at hj;cases hj
   have n2:i≠k:=λz=>by subst z;rw[getElem?_set_self hi] at hk;cases hk
   rw[getElem?_set_ne n1] at hj;rw[getElem?_set_ne n2] at hk;exact r.apart j k u u' c hjk hj hk ha
 ·exact⟨Hs,.refl _,r⟩
end
abbrev XW:=D->Hp->Hp->Prop
def RQ(Γ:Ct)(W:XW)(Hs H:Hp)(r:R)(Q:VK):Prop:=match r with
 |.ok s=>∀v Hs' H',bt Hs H Hs' H'->cW Γ H Hs' H' s v->Q v H'
 |.exc x=>∀Hs' H',bt Hs H Hs' H'->W x Hs' H'
def RL(Γ:Ct)(W:XW)(Hs H:Hp)(r:R)(Q:VK):Prop:=match r with
 |.ok s=>∀v Hs' H',bt Hs H Hs' H'->bI Γ H' s.val v->Q v H'
 |.exc x=>∀Hs' H',bt Hs H Hs' H'->W x Hs' H'
def RB(W:XW)(Hs H:Hp)(r:R)(Q:Bool->Hp->Prop):Prop:=match r with
 |.ok s=>∃b,s.val=.bl b/\∀Hs' H',bt Hs H Hs' H'->Q b H'
 |.exc x=>∀Hs' H',bt Hs H Hs' H'->W x Hs' H'
section
variable{Γ:Ct}{W:XW}{Hs H Hs1 H1:Hp}{r:R}{Q Q':VK}
theorem RQ.grow(q:RQ Γ W Hs H r Q)(g:bt Hs H Hs1 H1):RQ Γ W Hs1 H1 r Q:=by
 cases r with
 |ok s=>exact λv Hs' H' g' rs=>q v Hs' H' (g.trans g') (rs.back g.h)
 |exc x=>exact λHs' H' g'=>q Hs' H' (g.trans g')
theorem RQ.mono(q:RQ Γ W Hs H r Q)(h:∀v H,Q v H->Q' v H):RQ Γ W Hs H r Q':=by
 cases r with
 |ok s=>exact λv Hs' H' g' rs=>h _ _ (q v Hs' H' g' rs)
 |exc x=>exact q
theorem RL.mono(q:RL Γ W Hs H r Q)(h:∀v H,Q v H->Q' v H):RL Γ W Hs H r Q':=by
 cases r with
 |ok s=>exact λv Hs' H' g' rs=>h _ _ (q v Hs' H' g' rs)
 |exc x=>exact q
end
inductive tD(Γ:Ct)(W:XW)(g:ME)(σ:L2.St)(H:Hp)(Q:VK):Prop
 |mk (B0 B1 Hs:Hp) (ρ:aA) (r:R) (re:RE Γ B0 B1 Hs H σ ρ) (e:g ρ=some r) (q:RQ Γ W Hs H r Q)
inductive tL(Γ:Ct)(W:XW)(g:ME)(σ:L2.St)(H:Hp)(Q:VK):Prop
 |mk (B0 B1 Hs:Hp) (ρ:aA) (r:R) (re:RE Γ B0 B1 Hs H σ ρ) (e:g ρ=some r) (q:RL Γ W Hs H r Q)
inductive tT(Γ:Ct)(W:XW)(g:ME)(σ:L2.St)(H:Hp)(Q:Bool->Hp->Prop):Prop
 |mk (B0 B1 Hs:Hp) (ρ:aA) (r:R) (re:RE Γ B0 B1 Hs H σ ρ) (e:g ρ=some r) (q:RB W Hs H r Q)
def pP(Γ:Ct)(W:XW):List ME->TA
 |[]=>D4
 |g::gs=>B2 (tD Γ W g) (pP Γ W gs)
def rL(Γ:Ct)(W:XW):List ME->TA
 |[]=>D4
 |g::gs=>B2 (tL Γ W g) (rL Γ W gs)
section
variable{Γ:Ct}{W:XW}{B0 B1 Hs H:Hp}{σ:L2.St}{ρ:aA}{r:R}{Q Q':VK}{g ga:ME}{k:D->Option R}
theorem tD.mono(t:tD Γ W g σ H Q)(h:∀v H,Q v H->Q' v H):tD Γ W g σ H Q':=by
 obtain⟨B0,B1,Hs,ρ,r,re,e,q⟩:=t;exact⟨B0,B1,Hs,ρ,r,re,e,q.mono h⟩
theorem tL.mono(t:tL Γ W g σ H Q)(h:∀v H,Q v H->Q' v H):tL Γ W g σ H Q':=by
 obtain⟨B0,B1,Hs,ρ,r,re,e,q⟩:=t;exact⟨B0,B1,Hs,ρ,r,re,e,q.mono h⟩
theorem tL.toD(t:tL Γ W g σ H Q):tD Γ W g σ H Q:=by
 obtain⟨B0,B1,Hs,ρ,r,re,e,q⟩:=t;refine⟨B0,B1,Hs,ρ,r,re,e,?_⟩;cases r with
 |ok s=>exact λv Hs' H' g' rs=>q v Hs' H' g' (rs.look g')
 |exc x=>exact q
theorem bu(re:RE Γ B0 B1 Hs H σ ρ)(e:aQ (ga ρ) k=some r)(q:RQ Γ W Hs H r Q):
  tD Γ W ga σ H (λv H1=>∃Hs1 d,bt Hs H Hs1 H1/\RE Γ B0 B1 Hs1 H1 σ ρ/\bI Γ Hs1 d v/\k d=some r/\RQ Γ W Hs1 H1 r Q):=by
 cases h:ga ρ with
 |none=>rw[h] at e;cases e
 |some x=>
  rw[h] at e;refine⟨B0,B1,Hs,ρ,x,re,h,?_⟩;cases x with
  |exc y=>cases e;exact q
  |ok s=>
   intro v Hs' H' g' rs;obtain⟨Hs'',g2,_,rp⟩:=rs.share g';exact⟨Hs'',s.val,g2,re.grow g2,rp,e,q.grow g2⟩
theorem eG:∀(gs:List ME){σ:L2.St}{H:Hp}{Q Q':List V->Hp->Prop},(∀v H,Q v H->Q' v H)->pP Γ W gs σ H Q->pP Γ W gs σ H Q'
 |[],_,_,_,_,h,t=>h _ _ t
 |g::gs,_,_,_,_,h,t=>tD.mono t λv H1 t'=>eG gs (λvs H2 z=>h _ _ z) t'
theorem jb:∀(gs:List ME){σ:L2.St}{H:Hp}{Q Q':List V->Hp->Prop},(∀v H,Q v H->Q' v H)->rL Γ W gs σ H Q->rL Γ W gs σ H Q'
 |[],_,_,_,_,h,t=>h _ _ t
 |g::gs,_,_,_,_,h,t=>tL.mono t λv H1 t'=>jb gs (λvs H2 z=>h _ _ z) t'
theorem rK:∀(gs:List ME){Hs H:Hp}{k:List D->Option R},RE Γ B0 B1 Hs H σ ρ->cZ gs ρ k=some r->RQ Γ W Hs H r Q->
  pP Γ W gs σ H (λvs H1=>∃Hs1 ds,bt Hs H Hs1 H1/\RE Γ B0 B1 Hs1 H1 σ ρ/\RepL Γ Hs1 ds vs/\k ds=some r/\RQ Γ W Hs1 H1 r Q)
 |[],Hs,H,k,re,e,q=>⟨Hs,[],.refl re.b.i,re,.nil,e,q⟩
 |g::gs,Hs,H,k,re,e,q=>by
  refine(bu re e q).mono λv H1 ⟨Hs1,d,g1,re1,rp,e1,q1⟩=>?_;refine eG gs (λvs H2 ⟨Hs2,ds,g2,re2,rps,e2,q2⟩=>?_) (rK gs re1 e1 q1);exact⟨Hs2,d::ds,g1.trans g2,re2,.cons (rp.mono g2.s) rps,e2,q2⟩
theorem pQ:∀(gs:List ME){Hs H:Hp}{k:List D->Option R}{d:D},RE Γ B0 B1 Hs H σ ρ->pB (cZ gs ρ k)=some (.ok (.sh d))->RQ Γ W Hs H (.ok (.sh d)) Q->
  rL Γ W gs σ H (λvs H1=>∃Hs1 ds,bt Hs H Hs1 H1/\RE Γ B0 B1 Hs1 H1 σ ρ/\RepL Γ H1 ds vs/\pB (k ds)=some (.ok (.sh d))/\RQ Γ W Hs1 H1 (.ok (.sh d)) Q)
 |[],Hs,H,k,d,re,e,q=>⟨Hs,[],.refl re.b.i,re,.nil,e,q⟩
 |g::gs,Hs,H,k,d,re,e,q=>by
  have e':pB (aQ (g ρ) λx=>cZ gs ρ λds=>k (x::ds))=some (.ok (.sh d)):=e;cases h:g ρ with
  |none=>rw[h] at e';cases e'
  |some x=>
   rw[h] at e';cases x with
   |exc y=>cases e'
   |ok s=>
    refine⟨B0,B1,Hs,ρ,.ok s,re,h,λv Hs1 H1 g1 rp=>?_⟩;refine jb gs (λvs H2 ⟨Hs2,ds,g2,re2,rps,e2,q2⟩=>?_) (pQ gs (k:=λds=>k (s.val::ds)) (re.grow g1) e' (q.grow g1));exact⟨Hs2,s.val::ds,g1.trans g2,re2,.cons (rp.mono g2.h) rps,e2,q2⟩
end
theorem PE.imp{X:Cx}{e:Vd}{t t':TE}(h:PE X e t)(i:∀pins s σ H Q,aD X pins σ H s->t' σ H Q->t σ H Q):PE X e t':=λpins s σ H Q I q=>h pins s σ H Q I (i pins s σ H Q I q)
theorem PT.imp{X:Cx}{e:Vd}{t t':TT}(h:PT X e t)(i:∀pins s σ H Q,aD X pins σ H s->t' σ H Q->t σ H Q):PT X e t':=λpins s σ H Q I q=>h pins s σ H Q I (i pins s σ H Q I q)
theorem PW.imp{X:Cx}{e:Vd}{t t':TT}(h:PW X e t)(i:∀σ H Q,t' σ H Q->t σ H Q):PW X e t':=λw pins s σ H Q I q=>h w pins s σ H Q I (i σ H Q q)
theorem PS.imp{X:Cx}{e:Ve}{t t':TS}(h:PS X e t)(i:∀pins s σ H D,aD X pins σ H s->t' D σ H->t D σ H):PS X e t':=λpins s σ H D I q=>h pins s σ H D I (i pins s σ H D I q)
theorem nv.imp{X:Cx}{e:List Ve}{t t':TS}(h:nv X e t)(i:∀D σ H,t' D σ H->t D σ H):nv X e t':=λpins s σ H D I q=>h pins s σ H D I (i D σ H q)
abbrev PD(X:Cx)(Γ:Ct)(W:XW)(e:Vd)(g:ME):Prop:=PE X e (tD Γ W g)
abbrev PL(X:Cx)(Γ:Ct)(W:XW)(e:Vd)(g:ME):Prop:=PE X e (tL Γ W g)
abbrev wu(X:Cx)(Γ:Ct)(W:XW)(e:Vd)(g:ME):Prop:=PT X e (tT Γ W g)
abbrev qC(X:Cx)(Γ:Ct)(W:XW)(e:Vd)(g:ME):Prop:=PW X e (tT Γ W g)
abbrev pS(X:Cx)(Γ:Ct)(W:XW)(es:List Vd)(gs:List ME):Prop:=PA X es (pP Γ W gs)
abbrev GW(X:Cx)(Γ:Ct)(W:XW)(es:List Vd)(gs:List ME):Prop:=PA X es (rL Γ W gs)
section
variable{X:Cx}{Γ:Ct}{W:XW}{e a b:Vd}{g ga gb:ME}{pos:Pos}
theorem PD.look(h:PD X Γ W e g):PL X Γ W e g:=PE.imp h λ_ _ _ _ _ _ t=>t.toD
theorem a6{i:Nat}(h:PE X e (mL i)):PD X Γ W e (eVar i):=PE.imp h λ_ _ σ H Q _ ⟨B0,B1,Hs,ρ,r,re,e1,q⟩=>by
 unfold eVar at e1;split at e1
 ·rename_i d hd;cases e1;obtain⟨v,e2,rp⟩:=re.sh i d hd;exact⟨v,e2,q v Hs H (.refl re.b.i) rp⟩
 ·cases e1
theorem bE{i:Nat}(h:PE X e (mL i)):PL X Γ W e (eH i):=PE.imp h λ_ _ σ H Q _ ⟨B0,B1,Hs,ρ,r,re,e1,q⟩=>by
 unfold eH at e1;split at e1
 ·cases e1
 ·cases e1
 ·cases e1
 ·cases e1
 ·cases e1
 ·cases e1
 ·cases e1
 ·rename_i s hno hno2 hno4 hno5 hno6 hno3 hno7 hd;cases e1;cases s with
  |two d a o=>exact(hno3 d a o rfl).elim
  |thr d a o b u=>exact(hno7 d a o b u rfl).elim
  |sh d=>
   obtain⟨v,e2,rp⟩:=re.sh i d hd;exact⟨v,e2,q v Hs H (.refl re.b.i) (bI.mono re.b.i rp)⟩
  |own o=>
   obtain⟨c,ho,e2,_,_,e4,rp⟩:=re.own i o hd;exact⟨.ref c,e2,q (.ref c) Hs H (.refl re.b.i) (((rp.o (λkvs z=>by subst z;exact hno kvs rfl) (λb u z=>by subst z;exact hno2 b u rfl) (λkvs z=>by subst z;exact hno4 kvs rfl) (λkvs z=>by subst z;exact hno5 kvs rfl) λt z=>by subst z;exact hno6 t rfl).mono re.b.i).val e4)⟩
 ·cases e1
theorem jW{v:V}{d:D}(h:PE X e (tC v))(rp:∀H,bI Γ H d v):PD X Γ W e (eC d):=PE.imp h λ_ _ σ H Q _ ⟨B0,B1,Hs,ρ,r,re,e1,q⟩=>by
 cases e1;exact q v Hs H (.refl re.b.i) (rp Hs)
theorem af{i j}:PD X Γ W (.Constant (.int i) j pos) (eC (.int i)):=jW x4 λ_=>ah.mpr rfl
theorem gJ{i j}:PD X Γ W (.Constant (.bool i) j pos) (eC (.bl i)):=jW Hz λ_=>aw.mpr rfl
theorem kZ{j}:PD X Γ W (.Constant .none j pos) (eC .non):=jW FD λ_=>bw.mpr rfl
theorem aO{i j}:PD X Γ W (.Constant (.str i) j pos) (eC (.str i)):=jW FB λ_=>ar.mpr rfl
theorem BF{i j pos'}:PD X Γ W (.UnaryOp .USub (.Constant (.int i) j pos') pos) (eC (.int (-i))):=PE.imp (EM AU x4) λ_ _ σ H Q _ ⟨B0,B1,Hs,ρ,r,re,e1,q⟩=>by
 cases e1;exact⟨i,rfl,q _ Hs H (.refl re.b.i) (cW.of (ah.mpr rfl))⟩
inductive rD(Γ:Ct)(W:XW)(f:D->D->Option R)(x y:V)(H:Hp)(Q:VK):Prop
 |mk (Hs:Hp) (d1 d2:D) (r:R) (sm:aj Hs H) (r1:bI Γ Hs d1 x) (r2:bI Γ Hs d2 y) (e:f d1 d2=some r) (q:RQ Γ W Hs H r Q)
theorem sr{f:D->D->Option R}{σ:L2.St}{H:Hp}{Q:VK}(t:tD Γ W (eBin f ga gb) σ H Q):Hb (rD Γ W f) (tD Γ W ga) (tD Γ W gb) σ H Q:=by
 obtain⟨B0,B1,Hs,ρ,r,re,e,q⟩:=t;refine(bu re e q).mono λv H1 ⟨Hs1,d,g1,re1,rp,e1,q1⟩=>?_;refine(bu re1 e1 q1).mono λu H2 ⟨Hs2,d2,g2,re2,rp2,e2,q2⟩=>?_;exact⟨Hs2,d,d2,r,re2.b.i,rp.mono g2.s,rp2,e2,q2⟩
theorem aG{op:Operator}{f:D->D->Option R}(ho:gd X (binaryOp op) (rD Γ W f))(ha:PD X Γ W a ga)(hb:PD X Γ W b gb):PD X Γ W (.BinOp a op b pos) (eBin f ga gb):=
 PE.imp (Hw ho ha hb) λ_ _ _ _ _ _ t=>sr t
theorem fq{op:CmpOp}{f:D->D->Option R}(ho:gd X (compareOp op) (rD Γ W f))(ha:PD X Γ W a ga)(hb:PD X Γ W b gb)(hm:behindInMarks op b=false:=by first|exact BO _|rfl):PD X Γ W (.Compare a [op] [b] pos) (eBin f ga gb):=
 PE.imp (DA ho ha hb hm) λ_ _ _ _ _ _ t=>sr t
theorem yg{σ:L2.St}{H:Hp}{Q:Bool->Hp->Prop}(t:tT Γ W g σ H Q):tD Γ W g σ H (λx H'=>∃k,x=.bl k/\Q k H'):=by
 obtain⟨B0,B1,Hs,ρ,r,re,e,q⟩:=t;refine⟨B0,B1,Hs,ρ,r,re,e,?_⟩;cases r with
 |exc x=>exact q
 |ok s=>
  obtain⟨c,ec,q⟩:=q;intro v Hs' H' g' rs;obtain⟨_,g2,_,rp⟩:=rs.share g';rw[ec] at rp;exact⟨c,aw.mp rp,q _ _ g'⟩
theorem az{op:CmpOp}{f:D->D->Option R}(ho:gd X (compareOp op) (rD Γ W f))(ha:PD X Γ W a ga)(hb:PD X Γ W b gb)(hm:behindInMarks op b=false:=by first|exact BO _|rfl):wu X Γ W (.Compare a [op] [b] pos) (eBin f ga gb):=
 PT.imp (Dm ho ha hb hm) λ_ _ _ _ _ _ t=>sr (yg t)
theorem dG(h:PD X Γ W e g)(he:∀whole,isTrue e X.env whole=(do let v <-whole;standAt e.pos;holding [v] (truthy v)):=by intro _;rfl):wu X Γ W e g:=
 PT.imp (Bl h he) λ_ _ _ _ _ _ t=>yg t
section
variable{t u:ME}{rest:List Vd}
theorem RB.grow{Hs H Hs1 H1:Hp}{r:R}{Q:Bool->Hp->Prop}(q:RB W Hs H r Q)(g:bt Hs H Hs1 H1):RB W Hs1 H1 r Q:=by
 cases r with
 |exc x=>exact λHs' H' g'=>q Hs' H' (g.trans g')
 |ok s=>obtain⟨c,ec,q⟩:=q;exact⟨c,ec,λHs' H' g'=>q Hs' H' (g.trans g')⟩
theorem fX{x:D}{k:Bool->Option R}{r:R}(h:asB x k=some r):∃c,x=.bl c/\k c=some r:=by
 cases x with
 |bl c=>exact⟨c,rfl,h⟩
 |_=>cases h
theorem oi(ha:wu X Γ W a g):wu X Γ W (.UnaryOp .Not a pos) (pD g):=PT.imp (Bm ha) λ_ _ σ H Q _ t=>by
 obtain⟨B0,B1,Hs,ρ,r,re,e,q⟩:=t;have e':aQ (g ρ) Ig=some r:=e;cases h:g ρ with
 |none=>rw[h] at e';cases e'
 |some x=>
  rw[h] at e';refine⟨B0,B1,Hs,ρ,x,re,h,?_⟩;cases x with
  |exc y=>cases e';exact q
  |ok s=>
   obtain⟨c,ec,e2⟩:=fX (show asB s.val (λc=>okB (!c))=some r from e');cases e2;obtain⟨c',ec',q⟩:=q;cases ec';exact⟨c,ec,q⟩
theorem lY(ha:wu X Γ W a g):qC X Γ W (.BoolOp .And [a] pos) g:=Di ha
theorem gz(ha:wu X Γ W a g):qC X Γ W (.BoolOp .Or [a] pos) g:=Fp ha
theorem oh(ha:wu X Γ W a t)(hb:qC X Γ W (.BoolOp .And (b::rest) pos) u):qC X Γ W (.BoolOp .And (a::b::rest) pos) (gp t u):=PW.imp (Fq ha hb) λσ H Q h=>by
 obtain⟨B0,B1,Hs,ρ,r,re,e,q⟩:=h;have e':aQ (t ρ) (λx=>asB x λc=>if c=true then u ρ else okB false)=some r:=e;cases h:t ρ with
 |none=>rw[h] at e';cases e'
 |some x=>
  rw[h] at e';refine⟨B0,B1,Hs,ρ,x,re,h,?_⟩;cases x with
  |exc y=>cases e';exact q
  |ok s=>
   obtain⟨c,ec,e2⟩:=fX (show asB s.val _=some r from e');refine⟨c,ec,λHs' H' g'=>?_⟩;cases c with
   |true=>exact⟨B0,B1,Hs',ρ,r,re.grow g',e2,q.grow g'⟩
   |false=>
    cases e2;obtain⟨c',ec',q⟩:=q;cases ec';exact q _ _ g'
theorem eO(ha:wu X Γ W a t)(hb:qC X Γ W (.BoolOp .Or (b::rest) pos) u):qC X Γ W (.BoolOp .Or (a::b::rest) pos) (kJ t u):=PW.imp (Hu ha hb) λσ H Q h=>by
 obtain⟨B0,B1,Hs,ρ,r,re,e,q⟩:=h;have e':aQ (t ρ) (λx=>asB x λc=>if c=true then okB true else u ρ)=some r:=e;cases h:t ρ with
 |none=>rw[h] at e';cases e'
 |some x=>
  rw[h] at e';refine⟨B0,B1,Hs,ρ,x,re,h,?_⟩;cases x with
  |exc y=>cases e';exact q
  |ok s=>
   obtain⟨c,ec,e2⟩:=fX (show asB s.val _=some r from e');refine⟨c,ec,λHs' H' g'=>?_⟩;cases c with
   |false=>exact⟨B0,B1,Hs',ρ,r,re.grow g',e2,q.grow g'⟩
   |true=>
    cases e2;obtain⟨c',ec',q⟩:=q;cases ec';exact q _ _ g'
theorem qC.pt(h:qC X Γ W e g):wu X Γ W e g:=PW.pt h
theorem j4{op}(h:PD X Γ W a g):PD X Γ W (.BoolOp op [a] pos) g:=FC h
theorem iw(ha:PD X Γ W a t)(hb:PD X Γ W (.BoolOp .And (b::rest) pos) u):PD X Γ W (.BoolOp .And (a::b::rest) pos) (gp t u):=PE.imp (FF ha hb) λ_ _ σ H Q _ h=>by
 obtain⟨B0,B1,Hs,ρ,r,re,e,q⟩:=h;refine(bu (k:=λx=>asB x λc=>if c=true then u ρ else okB false) re e q).mono λv H1 ⟨Hs1,d,g1,re1,rp,e1,q1⟩=>?_;obtain⟨c,rfl,e2⟩:=fX e1;refine⟨c,aw.mp rp,?_⟩;cases c with
 |true=>exact⟨B0,B1,Hs1,ρ,r,re1,e2,q1⟩
 |false=>cases e2;exact q1 _ Hs1 H1 (.refl re1.b.i) (cW.of (aw.mpr rfl))
theorem HA(ha:PD X Γ W a t)(hb:PD X Γ W (.BoolOp .Or (b::rest) pos) u):PD X Γ W (.BoolOp .Or (a::b::rest) pos) (kJ t u):=PE.imp (Hv ha hb) λ_ _ σ H Q _ h=>by
 obtain⟨B0,B1,Hs,ρ,r,re,e,q⟩:=h;refine(bu (k:=λx=>asB x λc=>if c=true then okB true else u ρ) re e q).mono λv H1 ⟨Hs1,d,g1,re1,rp,e1,q1⟩=>?_;obtain⟨c,rfl,e2⟩:=fX e1;refine⟨c,aw.mp rp,?_⟩;cases c with
 |false=>exact⟨B0,B1,Hs1,ρ,r,re1,e2,q1⟩
 |true=>cases e2;exact q1 _ Hs1 H1 (.refl re1.b.i) (cW.of (aw.mpr rfl))
theorem jD{c:Vd}(hc:wu X Γ W c g)(ha:PD X Γ W a ga)(hb:PD X Γ W b gb):PD X Γ W (.IfExp c a b pos) (Cw g ga gb):=PE.imp (BB hc ha hb) λ_ _ σ H Q _ h=>by
 obtain⟨B0,B1,Hs,ρ,r,re,e,q⟩:=h;have e':aQ (g ρ) (λx=>asB x λc=>if c=true then ga ρ else gb ρ)=some r:=e;cases h:g ρ with
 |none=>rw[h] at e';cases e'
 |some x=>
  rw[h] at e';refine⟨B0,B1,Hs,ρ,x,re,h,?_⟩;cases x with
  |exc y=>cases e';exact q
  |ok s=>
   obtain⟨c,ec,e2⟩:=fX (show asB s.val _=some r from e');refine⟨c,ec,λHs' H' g'=>?_⟩;cases c with
   |true=>exact⟨B0,B1,Hs',ρ,r,re.grow g',e2,q.grow g'⟩
   |false=>exact⟨B0,B1,Hs',ρ,r,re.grow g',e2,q.grow g'⟩
end
theorem ae:pS X Γ W [] []:=de
theorem cp{es:List Vd}{gs:List ME}(h:PD X Γ W e g)(t:pS X Γ W es gs)(hs:starEach (e::es) X.env=(false,eval e X.env)::starEach es X.env:=by rfl):pS X Γ W (e::es) (g::gs):=bH h t hs
theorem bx:GW X Γ W [] []:=de
theorem b4{es:List Vd}{gs:List ME}(h:PL X Γ W e g)(t:GW X Γ W es gs)(hs:starEach (e::es) X.env=(false,eval e X.env)::starEach es X.env:=by rfl):GW X Γ W (e::es) (g::gs):=bH h t hs
inductive wo(Γ:Ct)(W:XW)(F:List D->Option R)(vs:List V)(H:Hp)(Q:VK):Prop
 |mk (Hs:Hp) (ds:List D) (r:R) (sm:aj Hs H) (rl:RepL Γ Hs ds vs) (e:F ds=some r) (q:RQ Γ W Hs H r Q) (tb:aj Γ.tb Hs)
theorem lN{F:List D->Option R}{gs:List ME}{σ:L2.St}{H:Hp}{Q:VK}(t:tD Γ W (au F gs) σ H Q):pP Γ W gs σ H λvs H1=>wo Γ W F vs H1 Q:=by
 obtain⟨B0,B1,Hs,ρ,r,re,e,q⟩:=t;exact eG gs (λvs H1 ⟨Hs1,ds,_,re1,rp,e1,q1⟩=>⟨Hs1,ds,r,re1.b.i,rp,e1,q1,re1.tb⟩) (rK gs re e q)
theorem uD{F:List D->Option R}{gs:List ME}{σ:L2.St}{H:Hp}{Q:VK}(t:tD Γ W (aJ F gs) σ H Q):rL Γ W gs σ H λvs H1=>wo Γ W F vs H1 Q:=by
 obtain⟨B0,B1,Hs,ρ,r,re,e,q⟩:=t;have e':pB (cZ gs ρ F)=some r:=e;obtain⟨d,rfl⟩:∃d,r=.ok (.sh d):=by
  unfold pB at e';split at e'
  ·split at e'
   ·cases e';exact⟨_,rfl⟩
   ·cases e'
  ·cases e'
 refine jb gs (λvs H1 ⟨Hs1,ds,g1,re1,rp,e1,q1⟩=>?_) (pQ gs re e' q);unfold pB at e1;split at e1
 ·rename_i s hs;split at e1
  ·rename_i hf;cases e1;refine⟨H1,ds,_,.refl _,rp,hs,λv Hs' H' g' rs=>q1 v Hs1 H' (.only re1.b.i g'.h) ?_,re1.tb.trans re1.b.i⟩;exact Bi (rs.look g') hf
  ·cases e1
 ·cases e1
section
variable{CX:AD}{k:Nat}{f:Q9}{fd:FuncData}{ps:List Str}{x:Str}{p:Pos}{es:List Vd}{gs:List ME}{F:List D->Option R}
def CN(Γ:Ct)(W:XW)(F:List D->Option R):Sp:=λvs H Q _=>wo Γ W F vs H Q
theorem DD(G:eI X.prog X.w X.K X.mg X.base kA k f fd ps (CN Γ W F))(hr:cg k X.A)(hg:Gl X x)(hm:X.mg x=some (.ref f))(hk:keepIn X.K (.ref f)=true)(hb:fZ X.K fd ps [])
  (ha:pS X Γ W (e::es) gs) (hdb:(x == ("__debug__":Str))=false:=by decide) (he:starEach (e::es) X.env=(false,eval e X.env)::starEach es X.env:=by rfl) (hpl:(backTo pos (starEach es X.env)).any (·.1)=false:=by rfl):
  PD X Γ W (.Call (.Name x p) (e::es) [] pos) (au F gs):=
 PE.imp (yv (E:=E0) (dvs:=[]) (ds:=[]) G hr hg hm hk hb .nil va ha hdb he hpl) λ_ _ _ _ _ _ t=>eG gs (λvs H1 z=>by show wo Γ W F (vs++[]) H1 _;rw[append_nil];exact z) (lN t)
theorem BI(G:eI X.prog X.w X.K X.mg X.base kA k f fd ps (CN Γ W F))(hr:cg k X.A)(hg:Gl X x)(hm:X.mg x=some (.ref f))(hk:keepIn X.K (.ref f)=true)(hb:fZ X.K fd ps [])
  (ha:GW X Γ W (e::es) gs) (hdb:(x == ("__debug__":Str))=false:=by decide) (he:starEach (e::es) X.env=(false,eval e X.env)::starEach es X.env:=by rfl) (hpl:(backTo pos (starEach es X.env)).any (·.1)=false:=by rfl):
  PD X Γ W (.Call (.Name x p) (e::es) [] pos) (aJ F gs):=
 PE.imp (yv (E:=E0) (dvs:=[]) (ds:=[]) G hr hg hm hk hb .nil va ha hdb he hpl) λ_ _ _ _ _ _ t=>jb gs (λvs H1 z=>by show wo Γ W F (vs++[]) H1 _;rw[append_nil];exact z) (uD t)
end
section
variable{x:Str}{p:Pos}{es:List Vd}{gs:List ME}{F:List D->Option R}{id T:Vg}
theorem sO(hc:cJ X (.builtin id) (wo Γ W F))(hg:Gl X x)(hm:X.mg x=none)(hv:bootBuiltins x=some (.builtin id))(ha:pS X Γ W (e::es) gs)(hn:x ≠ "__name__" := by decide)(hdb:(x == ("__debug__":Str))=false:=by decide)
  (he:starEach (e::es) X.env=(false,eval e X.env)::starEach es X.env:=by rfl) (hpl:(backTo pos (starEach es X.env)).any (·.1)=false:=by rfl):PD X Γ W (.Call (.Name x p) (e::es) [] pos) (au F gs):=
 PE.imp (m6 hc hg hm hv ha hn hdb he hpl) λ_ _ _ _ _ _ t=>lN t
theorem bG(hc:cJ X (.builtin id) (wo Γ W F))(hg:Gl X x)(hm:X.mg x=none)(hv:bootBuiltins x=some (.builtin id))(ha:GW X Γ W (e::es) gs)(hn:x ≠ "__name__" := by decide)(hdb:(x == ("__debug__":Str))=false:=by decide)
  (he:starEach (e::es) X.env=(false,eval e X.env)::starEach es X.env:=by rfl) (hpl:(backTo pos (starEach es X.env)).any (·.1)=false:=by rfl):PD X Γ W (.Call (.Name x p) (e::es) [] pos) (aJ F gs):=
 PE.imp (m6 hc hg hm hv ha hn hdb he hpl) λ_ _ _ _ _ _ t=>uD t
theorem jd(hc:cJ X (.type T) (wo Γ W F))(hg:Gl X x)(hm:X.mg x=none)(hv:bootBuiltins x=some (.type T))(ha:pS X Γ W (e::es) gs)(hn:x ≠ "__name__" := by decide)(hdb:(x == ("__debug__":Str))=false:=by decide)
  (he:starEach (e::es) X.env=(false,eval e X.env)::starEach es X.env:=by rfl) (hpl:(backTo pos (starEach es X.env)).any (·.1)=false:=by rfl):PD X Γ W (.Call (.Name x p) (e::es) [] pos) (au F gs):=
 PE.imp (qS hc hg hm hv ha hn hdb he hpl) λ_ _ _ _ _ _ t=>lN t
end
theorem dr{es:List Vd}{gs:List ME}{x1}(ha:pS X Γ W es gs):PD X Γ W (.Tuple es x1 pos) (gn gs):=PE.imp (FA ha) λ_ _ σ H Q _ t=>by
 refine eG gs (λvs H1 ⟨Hs1,ds,r,sm,rp,e1,q1,_⟩=>?_) (lN t)
 try dsimp only at e1
 split at e1
 ·rename_i hl;cases e1;refine⟨by rw[<-rp.length];exact le_trans hl (by decide),λp hp=>q1 _ (bW Hs1 p (.tup vs)) _ (.new sm hp) ?_⟩
  exact aS.mpr ⟨p,vs,rfl,.of aF,rp.mono (bJ (sm.free hp))⟩
 ·cases e1
theorem ck{es:List Vd}{gs:List ME}(ha:pS X Γ W es gs):PD X Γ W (.List es pos) (du gs):=PE.imp (BA ha) λ_ _ σ H Q _ t=>by
 refine eG gs (λvs H1 ⟨Hs1,ds,r,sm,rp,e1,q1,_⟩=>?_) (lN t)
 try dsimp only at e1
 split at e1
 ·rename_i hl;cases e1;refine⟨by rw[<-rp.length];exact le_trans hl (by decide),λp hp=>q1 _ Hs1 _ (.newOwn sm hp) ?_⟩
  exact⟨p,_,rfl,hp,sm.free hp,aF,vs,rfl,rp⟩
 ·cases e1
theorem bQ{f:D->D->Option R}(ho:GX X (rD Γ W f))(ha:PD X Γ W a ga)(hb:PD X Γ W b gb)(hs:ua b:=by exact λ_ _=>rfl):PD X Γ W (.Subscript a b pos) (eBin f ga gb):=
 PE.imp (EN ho ha hb hs) λ_ _ _ _ _ _ t=>sr t
end
end L3
namespace L2
open PySem PySem.Spec PyProof.Rows
section
variable{X:Cx}{tg:Vd}
def Kb(K:Frag)(tl:TE):TI:=λσ H R=>tl σ H λx H1=>∃a,x=.ref a/\(((∃xs,fJ K H1 a xs)/\R (JH K a) H1)\/((∃xs,jS K H1 a xs)/\R (JF K a) H1))
theorem Fx{l:Vd}{tl:TE}(hl:PE X l tl):PI X tg l (Kb X.K tl):=by
 intro pins s σ H R I h;refine cA (hl pins s σ H _ I h) λv s1 ⟨x,H1,I1,r1,a,e,q1⟩=>?_;subst e;cases r1;have f1:∀b∈[s1.heap.objs.size],FpOk X pins H1 b:=λb hb=>by
  rw[mem_singleton.mp hb];exact I1.fpOk (le_refl _) (I1.hok.fresh (le_refl _))
 rcases q1 with⟨⟨xs,hq⟩,q⟩|⟨⟨xs,hq⟩,q⟩
 ·obtain⟨its,rv,p,hz⟩:=I1.list hq;exact wpAny_pyIter_list p.isList ⟨s1.heap.objs.size,[s1.heap.objs.size],_,_,H1,rfl,I1.kept (t':=s1.toks) (λb o e=>get?_push_of_some _ e),zu a _,⟨_,get?_push_size _ rfl,rfl,rfl⟩,f1,q⟩
 ·obtain⟨its,rv,p,hz⟩:=I1.tuple hq;exact wpAny_pyIter_tuple (show s1.heap.IsTuple a its.toArray from p) ⟨s1.heap.objs.size,[s1.heap.objs.size],_,_,H1,rfl,I1.kept (t':=s1.toks) (λb o e=>get?_push_of_some _ e),wC a _,⟨_,get?_push_size _ rfl,rfl,rfl⟩,f1,q⟩
end
def tR(scope:Scope)(env:PySem.Env):List (Str×Q9):=scope.names.foldl (λcs x=>if x.2 == .free then(x.1,(env.cells.lookup x.1).getD 0)::cs else cs) []
def cP(sc psc:Scope)(vars:List Str):Bool:=
 (sc.kind == .function) && sc.names.all λy=>(sc.names.lookup y.1 == some y.2) && (match y.2 with
  |.local=>vars.contains y.1
  |.cell=>false
  |.free=>psc.names.lookup y.1 == some .cell || psc.names.lookup y.1 == some .free
  |_=>true)
def iY(N vars:List Str)(js:List Nat):Bool:=(List.range N.length).all λi=>js.contains i || !(vars.contains (N.getD i (Str.ofString "")))
def fG(js:List Nat)(σ:St):St:=js.foldl (λσ j=>σ.set j none) σ
theorem jJ(js:List Nat):∀σ:St,(fG js σ).length=σ.length:=by
 induction js with
 |nil=>intro σ;rfl
 |cons j js ih=>intro σ;show(fG js (σ.set j none)).length=_;rw[ih,length_set]
theorem vR(js:List Nat):∀(σ:St)(i:Nat)(v:V),(fG js σ)[i]?=some (some v)->i∉js/\σ[i]?=some (some v):=by
 induction js with
 |nil=>intro σ i v h;exact⟨by simp,h⟩
 |cons j js ih=>
  intro σ i v h;obtain⟨h1,h2⟩:=ih (σ.set j none) i v h;by_cases hj:j=i
  ·subst hj;by_cases hl:j<σ.length
   ·rw[getElem?_set_self hl] at h2;cases h2
   ·rw[getElem?_eq_none (by rw[length_set];omega)] at h2;cases h2
  ·rw[getElem?_set_ne hj] at h2;exact⟨by simp[h1,Ne.symm hj],h2⟩
section
variable{sc psc:Scope}{vars:List Str}
theorem mz(h:cP sc psc vars=true):sc.kind=.function:=by
 unfold cP at h;exact eq_of_beq (Bool.and_eq_true_iff.mp h).1
theorem lJ(h:cP sc psc vars=true):∀y∈sc.names,sc.names.lookup y.1=some y.2/\(y.2=.local->y.1∈vars)/\y.2≠.cell/\(y.2=.free->psc.names.lookup y.1=some .cell\/psc.names.lookup y.1=some .free):=by
 intro y hy;unfold cP at h;have h2:=all_eq_true.mp (Bool.and_eq_true_iff.mp h).2 y hy;obtain⟨h3,h4⟩:=Bool.and_eq_true_iff.mp h2;refine⟨eq_of_beq h3,λe=>?_,λe=>?_,λe=>?_⟩
 ·rw[e] at h4;exact List.contains_iff_mem.mp h4
 ·rw[e] at h4;cases h4
 ·rw[e] at h4;rcases Bool.or_eq_true_iff.mp h4 with z|z
  ·exact .inl (eq_of_beq z)
  ·exact .inr (eq_of_beq z)
theorem eh{α β:Type}[BEq α][LawfulBEq α]:∀{l:List (α×β)}{x:α}{v:β},l.lookup x=some v->(x,v)∈l
 |[],_,_,h=>by cases h
 | (y,w)::l,x,v,h=>by
  rw[lookup_cons] at h;cases hb:x == y with
  |true=>
   rw[hb] at h;cases h;rw[eq_of_beq hb];exact mem_cons_self
  |false=>
   rw[hb] at h;exact mem_cons_of_mem _ (eh h)
end
theorem Er(scope:Scope)(env:PySem.Env):∀(l:List (Str×NameKind))(acc:List (Str×Q9)),(∀p∈acc,env.cells.lookup p.1=some p.2)->(∀y∈l,y.2=.free->∃c,env.cells.lookup y.1=some c)->
  ∀p∈l.foldl (λcs x=>if x.2 == .free then(x.1,(env.cells.lookup x.1).getD 0)::cs else cs) acc,env.cells.lookup p.1=some p.2:=by
 intro l
 induction l with
 |nil=>intro acc h _;exact h
 |cons y l ih=>
  intro acc h hf;rw[foldl_cons];refine ih _ ?_ λz hz=>hf z (mem_cons_of_mem _ hz);split
  ·rename_i hb;intro p hp;rcases mem_cons.mp hp with e|hp
   ·obtain⟨c,hc⟩:=hf y mem_cons_self (eq_of_beq hb);rw[e,hc];rfl
   ·exact h p hp
  ·exact h
theorem CF(scope:Scope)(env:PySem.Env):∀(l:List (Str×NameKind))(acc:List (Str×Q9))(x:Str),((x,NameKind.free)∈l\/∃c,(x,c)∈acc)->
  ∃c,(x,c)∈l.foldl (λcs x=>if x.2 == .free then(x.1,(env.cells.lookup x.1).getD 0)::cs else cs) acc:=by
 intro l
 induction l with
 |nil=>
  intro acc x h;rcases h with h|h
  ·cases h
  ·exact h
 |cons y l ih=>
  intro acc x h;rw[foldl_cons];refine ih _ x ?_;rcases h with h|⟨c,h⟩
  ·rcases mem_cons.mp h with e|h
   ·subst e;exact .inr ⟨_,by rw[if_pos (by rfl)];exact mem_cons_self⟩
   ·exact .inl h
  ·refine .inr ⟨c,?_⟩;split
   ·exact mem_cons_of_mem _ h
   ·exact h
theorem kK{scope:Scope}{env:PySem.Env}(hf:∀y∈scope.names,y.2=.free->∃c,env.cells.lookup y.1=some c):closureFor scope env=pure (tR scope env):=by
 have go:∀(l:List (Str×NameKind))(acc:List (Str×Q9)),(∀y∈l,y.2=.free->∃c,env.cells.lookup y.1=some c)->
   (forIn l acc λx cs=>do
    if x.2 == .free then pure (ForInStep.yield ((x.1,<-cellOf env x.1)::cs)) else pure (ForInStep.yield cs):Sem (List (Str×Q9)))=
   pure (l.foldl (λcs x=>if x.2 == .free then(x.1,(env.cells.lookup x.1).getD 0)::cs else cs) acc):=by
  intro l
  induction l with
  |nil=>intro acc _;rfl
  |cons y l ih=>
   intro acc h;rw[forIn_cons,foldl_cons];cases hb:y.2 == NameKind.free with
   |true=>
    obtain⟨c,hc⟩:=h y mem_cons_self (eq_of_beq hb);have e1:cellOf env y.1=pure c:=by unfold cellOf;rw[hc]
    simp only[if_true,e1,pure_bind,hc,Option.getD_some];exact ih _ λz hz=>h z (mem_cons_of_mem _ hz)
   |false=>
    simp only[Bool.false_eq_true,if_false,pure_bind];exact ih _ λz hz=>h z (mem_cons_of_mem _ hz)
 have:=go scope.names [] hf;unfold closureFor;simpa [tR] using this
end L2
namespace L3
open PySem PySem.Spec PyProof.Rows L2
def EQ(Γ:Ct)(W:XW)(B0 B1 Hs:Hp)(D:o3):kh->Prop
 |.next ρ'=>∀σ' Hs' H',aj Hs Hs'->RE Γ B0 B1 Hs' H' σ' ρ'->D.nx σ' H'
 |.brk ρ'=>∀σ' Hs' H',aj Hs Hs'->RE Γ B0 B1 Hs' H' σ' ρ'->D.bk σ' H'
 |.cont ρ'=>∀σ' Hs' H',aj Hs Hs'->RE Γ B0 B1 Hs' H' σ' ρ'->D.ct σ' H'
 |.ret s=>∀v Hs' H',aj Hs Hs'->bt B0 B1 Hs' H'->cW Γ B1 Hs' H' s v->D.rt v H'
 |.exc x=>∀Hs' H',aj Hs Hs'->bt B0 B1 Hs' H'->W x Hs' H'
theorem EQ.from{Γ:Ct}{W:XW}{B0 B1 Hs Hs1:Hp}{D:o3}{o:kh}(q:EQ Γ W B0 B1 Hs D o)(k:aj Hs Hs1):EQ Γ W B0 B1 Hs1 D o:=by
 cases o with
 |next ρ=>exact λσ' Hs' H' h=>q σ' Hs' H' (k.trans h)
 |brk ρ=>exact λσ' Hs' H' h=>q σ' Hs' H' (k.trans h)
 |cont ρ=>exact λσ' Hs' H' h=>q σ' Hs' H' (k.trans h)
 |ret s=>exact λv Hs' H' h=>q v Hs' H' (k.trans h)
 |exc x=>exact λHs' H' h=>q Hs' H' (k.trans h)
inductive tS(Γ:Ct)(W:XW)(g:MC)(D:o3)(σ:L2.St)(H:Hp):Prop
 |mk (B0 B1 Hs:Hp) (ρ:aA) (o:kh) (re:RE Γ B0 B1 Hs H σ ρ) (e:g ρ=some o) (q:EQ Γ W B0 B1 Hs D o)
abbrev ox(X:Cx)(Γ:Ct)(W:XW)(st:Ve)(g:MC):Prop:=PS X st (tS Γ W g)
abbrev iV(X:Cx)(Γ:Ct)(W:XW)(st:List Ve)(g:MC):Prop:=nv X st (tS Γ W g)
section
variable{X:Cx}{Γ:Ct}{W:XW}{st:Ve}{rest a b:List Ve}{g g1 g2:MC}{ge gc:ME}{e c:Vd}{pos:Pos}
theorem aB:iV X Γ W [] bp:=nv.imp yo λD σ H ⟨B0,B1,Hs,ρ,o,re,e,q⟩=>by
 cases e;exact q σ Hs H (.refl _) re
theorem a9(h1:ox X Γ W st g1)(h2:iV X Γ W rest g2):iV X Γ W (st::rest) (aC g1 g2):=nv.imp (uW h1 h2) λD σ H ⟨B0,B1,Hs,ρ,o,re,e,q⟩=>by
 unfold aC at e;cases h:g1 ρ with
 |none=>rw[h] at e;cases e
 |some u=>
  rw[h] at e;refine⟨B0,B1,Hs,ρ,u,re,h,?_⟩;cases u with
  |next ρ'=>exact λσ' Hs' H' sm re'=>⟨B0,B1,Hs',ρ',o,re',e,q.from sm⟩
  |brk ρ'=>cases e;exact q
  |cont ρ'=>cases e;exact q
  |ret s=>cases e;exact q
  |exc x=>cases e;exact q
theorem ag(h:ox X Γ W st g):iV X Γ W [st] g:=sJ h
theorem aq{i:Nat}(h:iV X Γ W rest g):iV X Γ W rest (cC i g):=nv.imp h λD σ H ⟨B0,B1,Hs,ρ,o,re,e,q⟩=>by
 obtain⟨Hs',sm,re'⟩:=re.dem i;exact⟨B0,B1,Hs',dem i ρ,o,re',e,q.from sm⟩
theorem wG{B0 B1 Hs H:Hp}{σ:L2.St}{ρ:aA}{o:kh}{D:o3}{k:S->Option kh}(re:RE Γ B0 B1 Hs H σ ρ)(e:h7 (ge ρ) k=some o)(q:EQ Γ W B0 B1 Hs D o):
  tD Γ W ge σ H (λv H1=>∃Hs1 s,bt Hs H Hs1 H1/\cW Γ H Hs1 H1 s v/\k s=some o):=by
 cases h:ge ρ with
 |none=>rw[h] at e;cases e
 |some x=>
  rw[h] at e;refine⟨B0,B1,Hs,ρ,x,re,h,?_⟩;cases x with
  |exc y=>cases e;exact λHs' H' g'=>q Hs' H' g'.s (re.b.trans g')
  |ok s=>exact λv Hs' H' g' rs=>⟨Hs',s,g',rs,e⟩
theorem wV{i:Nat}{t:TE}(h:PS X st (B4 (tD Γ W ge) (vO i)))(hi:i<X.N.length):ox X Γ W st (sSet i ge):=PS.imp h λpins s σ H D I ⟨B0,B1,Hs,ρ,o,re,e,q⟩=>by
 refine(wG re e q).mono λv H1 ⟨Hs1,s,g1,rs,e1⟩=>?_;cases e1;exact q _ Hs1 H1 g1.s (re.setS g1 (by rw[I.len];exact hi) rs)
theorem Dn{i:Nat}{x:Str}{pos':Pos}(hN:X.N.Nodup)(hi:X.N[i]?=some x)(hx:rO X.env.scope x)(he:PD X Γ W e ge)(hs:swapsWith e (some (.Name x pos')) pos.line X.env=pure false:=by rfl)
  (hf:X.fn x=true\/X.env.scope.names.lookup x=some .local:=by first|exact .inl rfl|exact .inr rfl|assumption):ox X Γ W (.Assign [.Name x pos'] e pos) (sSet i ge):=
 wV (t:=tD Γ W ge) (sL hN hi hx he hs hf) (List.getElem?_eq_some_iff.mp hi).1
theorem aV(he:PD X Γ W e ge):ox X Γ W (.Return (some e) pos) (dq ge):=PS.imp (wW he) λpins s σ H D I ⟨B0,B1,Hs,ρ,o,re,e,q⟩=>by
 refine(wG re e q).mono λv H1 ⟨Hs1,s,g1,rs,e1⟩=>?_;cases e1;exact q v Hs1 H1 g1.s (re.b.trans g1) (rs.back re.b.h)
theorem Ay{x:D}{k:Bool->Option kh}{o:kh}(h:asBO x k=some o):∃c,x=.bl c/\k c=some o:=by
 cases x with
 |bl c=>exact⟨c,rfl,h⟩
 |_=>cases h
theorem aZ(hc:wu X Γ W c gc)(ha:iV X Γ W a g1)(hb:iV X Γ W b g2):ox X Γ W (.If c a b pos) (sIf gc g1 g2):=PS.imp (EL hc ha hb) λpins s σ H D I ⟨B0,B1,Hs,ρ,o,re,e,q⟩=>by
 have e':h7 (gc ρ) (λs=>asBO s.val λt=>if t=true then g1 ρ else g2 ρ)=some o:=e;cases h:gc ρ with
 |none=>rw[h] at e';cases e'
 |some x=>
  rw[h] at e';refine⟨B0,B1,Hs,ρ,x,re,h,?_⟩;cases x with
  |exc y=>cases e';exact λHs' H' g'=>q Hs' H' g'.s (re.b.trans g')
  |ok s=>
   obtain⟨t,et,e2⟩:=Ay (show asBO s.val _=some o from e');refine⟨t,et,λHs' H' g'=>?_⟩;cases t with
   |true=>exact⟨B0,B1,Hs',ρ,o,re.grow g',e2,q.from g'.s⟩
   |false=>exact⟨B0,B1,Hs',ρ,o,re.grow g',e2,q.from g'.s⟩
structure CI(Γ:Ct)(Hs0:Hp)(J:It)(ds:List D):Prop where
 go:∀i Hs H,i<ds.length->aj Hs0 Hs->aj Hs H->J.go i H
 stop:∀Hs H,aj Hs0 Hs->aj Hs H->J.stop ds.length H
 yld:∀i Hs H x H',i<ds.length->aj Hs0 Hs->aj Hs H->J.yld i H x H'->∃d Hs',ds[i]?=some d/\bt Hs H Hs' H'/\bI Γ Hs' d x
def IQ(Γ:Ct)(W:XW)(Hs H:Hp)(r:RI)(Q:It->Hp->Prop):Prop:=match r with
 |.ok ds=>∀J Hs' H',bt Hs H Hs' H'->CI Γ Hs' J ds->Q J H'
 |.exc x=>∀Hs' H',bt Hs H Hs' H'->W x Hs' H'
inductive tI(Γ:Ct)(W:XW)(gi:MI)(σ:L2.St)(H:Hp)(Q:It->Hp->Prop):Prop
 |mk (B0 B1 Hs:Hp) (ρ:aA) (r:RI) (re:RE Γ B0 B1 Hs H σ ρ) (e:gi ρ=some r) (q:IQ Γ W Hs H r Q)
abbrev AC(X:Cx)(Γ:Ct)(W:XW)(tg iter:Vd)(gi:MI):Prop:=PI X tg iter (tI Γ W gi)
theorem PI.imp{X:Cx}{tg e:Vd}{t t':TI}(h:PI X tg e t)(i:∀pins s σ H Q,aD X pins σ H s->t' σ H Q->t σ H Q):PI X tg e t':=λpins s σ H Q I q=>h pins s σ H Q I (i pins s σ H Q I q)
inductive IZ(Γ:Ct)(js:List Nat)(bd:MB)(v:V)(σ:L2.St)(H:Hp)(Q:L2.St->Hp->Prop):Prop
 |mk (B0 B1 Hs:Hp) (ρ:aA) (d:D) (ρ':aA) (re:RE Γ B0 B1 Hs H σ ρ) (rp:bI Γ Hs d v) (e:bd d ρ=some ρ') (q:∀σ':L2.St,RE Γ B0 B1 Hs H σ' ρ'->(∀j:Nat,j∉js->σ'[j]?=σ[j]?)->Q σ' H)
abbrev F2(X:Cx)(Γ:Ct)(tg:Vd)(js:List Nat)(bd:MB):Prop:=PG X tg (IZ Γ js bd)
theorem PG.imp{X:Cx}{tg:Vd}{t t':TG}(h:PG X tg t)(i:∀pins s v σ H Q,aD X pins σ H s->t' v σ H Q->t v σ H Q):PG X tg t':=λpins s σ H v u Q I r q=>h pins s σ H v u Q I r (i pins s v σ H Q I q)
theorem BK{j:Nat}{x:Str}(hN:X.N.Nodup)(hi:X.N[j]?=some x)(hx:rO X.env.scope x)(hf:X.fn x=true\/X.env.scope.names.lookup x=some .local:=by first|exact .inl rfl|exact .inr rfl|assumption):F2 X Γ (.Name x pos) [j] (aY j):=
 PG.imp (ia hN hi hx hf) λpins s v σ H Q I ⟨B0,B1,Hs,ρ,d,ρ',re,rp,e,q⟩=>by
  cases e;exact q _ (re.setSh (by rw[I.len];exact(List.getElem?_eq_some_iff.mp hi).1) rp) λi hi=>getElem?_set_ne λz=>hi (by simp[z])
theorem m8{j k:Nat}{x y:Str}{px py:Pos}{kt:Nat}(hK:X.K=Γ.K)(hc:X.calm=true)(hN:X.N.Nodup)(hj:X.N[j]?=some x)(hk:X.N[k]?=some y)(hx:rO X.env.scope x)(hy:rO X.env.scope y)
  (fx:X.fn x=true\/X.env.scope.names.lookup x=some .local:=by first|exact .inl rfl|exact .inr rfl|assumption) (fy:X.fn y=true\/X.env.scope.names.lookup y=some .local:=by first|exact .inl rfl|exact .inr rfl|assumption)
  (hn:(assignEach [.Name x px,.Name y py] X.env).length=2:=by rfl) (hst:(assignEach [.Name x px,.Name y py] X.env).findIdx? (·.1)=none:=by rfl)
  (hs1:(assignEach [.Name x px,.Name y py] X.env).map (·.2)=assign (.Name x px) X.env::(assignEach [.Name y py] X.env).map (·.2):=by rfl) (hs2:(assignEach [.Name y py] X.env).map (·.2)=assign (.Name y py) X.env::(assignEach [] X.env).map (·.2):=by rfl):
  F2 X Γ (.Tuple [.Name x px,.Name y py] kt pos) [j,k] (mH [j,k]):=
 PG.imp (Bx hc (jB (ia hN hj hx fx) (jB (ia hN hk hy fy) yr hs2) hs1) hn hst) λpins s v σ H Q I ⟨B0,B1,Hs,ρ,d,ρ',re,rp,e,q⟩=>by
  have lj:j<σ.length:=by rw[I.len];exact(List.getElem?_eq_some_iff.mp hj).1
  have lk:k<σ.length:=by rw[I.len];exact(List.getElem?_eq_some_iff.mp hk).1
  cases d with
  |tup ds=>
   unfold mH at e;dsimp only at e;split at e
   ·rename_i hl;cases e
    match ds,hl with
    |[d1,d2],_=>
     obtain⟨a,xs,rfl,sq,rl⟩:=aS.mp rp;obtain⟨x1,r1,rfl,q1,rl⟩:=aK.mp rl;obtain⟨x2,r2,rfl,q2,rl⟩:=aK.mp rl;obtain rfl:=bz.mp rl;refine⟨a,[x1,x2],rfl,by rw[hK];exact b9 re.b.i sq,rfl,x1,[x2],rfl,x2,[],rfl,rfl,?_⟩
     exact q _ ((re.setSh lj q1).setSh (by rw[length_set];exact lk) q2) λi hi=>by
      rw[getElem?_set_ne λz=>hi (by simp[z]),getElem?_set_ne λz=>hi (by simp[z])]
   ·cases e
  |_=>cases e
theorem Ci{js:List Nat}{bd:MB}{body:MC}{ds:List D}{J:It}{D:o3}{B0 B1 Hs0:Hp}{o:kh}(w:CI Γ Hs0 J ds)(q:EQ Γ W B0 B1 Hs0 D o){σ:L2.St}{H:Hp}{ρ:aA}(re:RE Γ B0 B1 Hs0 H σ ρ)(e:iP bd body ds ρ=some o):
  ∃Wv:Nat->Nat->L2.St->Hp->Prop,(∃m,Wv 0 m σ H)/\∀i m σ H,Wv i m σ H->
   (J.stop i H/\D.nx σ H)\/(J.go i H/\∃N:L2.St->Hp->Prop,(∀σ' H',N σ' H'->∃m',m'<m/\Wv (i+1) m' σ' H')/\∀x H',J.yld i H x H'->IZ Γ js bd x σ H' λσ2 H2=>tS Γ W body {D with nx:=N,ct:=N,bk:=D.nx} σ2 H2):=by
 refine⟨λi m σ H=>m=ds.length - i/\i<=ds.length/\∃Hs ρ,aj Hs0 Hs/\RE Γ B0 B1 Hs H σ ρ/\iP bd body (ds.drop i) ρ=some o,⟨_,rfl,zero_le _,Hs0,ρ,.refl _,re,e⟩,?_⟩
 rintro i m σ H ⟨rfl,hi,Hs,ρ,sm,re,e⟩
 by_cases hlt:i<ds.length
 ·refine .inr ⟨w.go i Hs H hlt sm re.b.i,λσ' H'=>∃Hs' ρ',aj Hs0 Hs'/\RE Γ B0 B1 Hs' H' σ' ρ'/\iP bd body (ds.drop (i+1)) ρ'=some o,λσ' H' ⟨Hs',ρ',s',r',e'⟩=>⟨_,by omega,rfl,hlt,Hs',ρ',s',r',e'⟩,λx H' y=>?_⟩
  obtain⟨d,Hs',ed,g',rp⟩:=w.yld i Hs H x H' hlt sm re.b.i y;have hd:ds.drop i=d::ds.drop (i+1):=by
   rw[List.drop_eq_getElem_cons hlt];congr 1;rw[getElem?_eq_getElem hlt] at ed;exact Option.some.inj ed
  rw[hd] at e;unfold iP at e;cases h:bd d ρ with
  |none=>rw[h] at e;cases e
  |some ρ1=>
   rw[h] at e;dsimp only at e;refine⟨B0,B1,Hs',ρ,d,ρ1,re.grow g',rp,h,λσ2 re2 _=>?_⟩;cases hb:body ρ1 with
   |none=>rw[hb] at e;cases e
   |some u=>
    rw[hb] at e;refine⟨B0,B1,Hs',ρ1,u,re2,hb,?_⟩;have s1:aj Hs0 Hs':=sm.trans g'.s;cases u with
    |next ρ2=>exact λσ' Hs2 H2 s2 re3=>⟨Hs2,ρ2,s1.trans s2,re3,e⟩
    |cont ρ2=>exact λσ' Hs2 H2 s2 re3=>⟨Hs2,ρ2,s1.trans s2,re3,e⟩
    |brk ρ2=>cases e;exact λσ' Hs2 H2 s2 re3=>q σ' Hs2 H2 (s1.trans s2) re3
    |ret s=>cases e;exact λv Hs2 H2 s2=>q v Hs2 H2 (s1.trans s2)
    |exc x=>cases e;exact λHs2 H2 s2=>q Hs2 H2 (s1.trans s2)
 ·have ei:i=ds.length:=by omega
  subst ei;rw[drop_length] at e;cases e;exact .inl ⟨w.stop Hs H sm re.b.i,q σ Hs H sm re⟩
theorem i0{tg iter:Vd}{gi:MI}{js:List Nat}{bd:MB}{body:List Ve}(hp:PassesOwn (model X.prog X.w) X.A X.env X.xe)(hc:X.calm=true)(hi:AC X Γ W tg iter gi)(hg:F2 X Γ tg js bd)(hb:iV X Γ W body g)
  (hs:∀x,foldedSetIterable iter X.env x=pure x:=by intro _;rfl):ox X Γ W (.For tg iter body [] pos) (lV gi bd g):=PS.imp (wX hp hc hi hg hb hs) λpins s σ H D I ⟨B0,B1,Hs,ρ,o,re,e,q⟩=>by
 unfold lV at e;cases h:gi ρ with
 |none=>rw[h] at e;cases e
 |some r=>
  rw[h] at e;refine⟨B0,B1,Hs,ρ,r,re,h,?_⟩;cases r with
  |exc x=>cases e;exact λHs' H' g'=>q Hs' H' g'.s (re.b.trans g')
  |ok ds=>exact λJ Hs' H' g' w=>Ci w (q.from g'.s) (re.grow g') e
theorem zp{Hs0:Hp}{a:Q9}{xs:List V}{ds:List D}{K:Frag}(h:fJ K Hs0 a xs)(r:RepL Γ Hs0 ds xs):CI Γ Hs0 (JH K a) ds where
 go:=λi Hs H hi s1 s2=>⟨xs,xs[i]'(by rw[<-r.length];exact hi),aj.seq (s1.trans s2) h,by rw[getElem?_eq_getElem]⟩
 stop:=λHs H s1 s2=>⟨xs,aj.seq (s1.trans s2) h,le_of_eq r.length.symm⟩
 yld:=λi Hs H x H' hi s1 s2 ⟨e,y⟩=>by
  subst e;obtain⟨z,e1,q⟩:=r.get (getElem?_eq_getElem hi);have e2:=y xs (aj.seq (s1.trans s2) h);rw[e1] at e2;cases e2;exact⟨_,Hs,getElem?_eq_getElem hi,.refl s2,q.mono s1⟩
theorem AQ{Hs0:Hp}{a:Q9}{xs:List V}{ds:List D}{K:Frag}(h:jS K Hs0 a xs)(r:RepL Γ Hs0 ds xs):CI Γ Hs0 (JF K a) ds where
 go:=λi Hs H hi s1 s2=>⟨xs,xs[i]'(by rw[<-r.length];exact hi),b9 (s1.trans s2) h,by rw[getElem?_eq_getElem]⟩
 stop:=λHs H s1 s2=>⟨xs,b9 (s1.trans s2) h,le_of_eq r.length.symm⟩
 yld:=λi Hs H x H' hi s1 s2 ⟨e,y⟩=>by
  subst e;obtain⟨z,e1,q⟩:=r.get (getElem?_eq_getElem hi);have e2:=y xs (b9 (s1.trans s2) h);rw[e1] at e2;cases e2;exact⟨_,Hs,getElem?_eq_getElem hi,.refl s2,q.mono s1⟩
theorem AR{Hs0:Hp}(lo hi:Int):CI Γ Hs0 (IH lo (hi - lo).toNat) (rng lo hi) where
 go:=λi Hs H h s1 s2=>by
  unfold rng at h;rw[length_map,length_range] at h;exact h
 stop:=λHs H s1 s2=>by
  unfold rng;rw[length_map,length_range];exact le_refl _
 yld:=λi Hs H x H' h s1 s2 ⟨e,y⟩=>by
  subst e y;unfold rng at h ⊢;rw[length_map,length_range] at h;exact⟨.int (lo+i),Hs,by rw[getElem?_map,getElem?_range h];rfl,.refl s2,ah.mpr rfl⟩
end
end L3
namespace L2
open PySem PySem.Spec PyProof.Rows
def cO(X:Cx)(scope:Scope)(fp:List Q9)(s:Q8)(H:Hp)(C:Q9):Cx:=
 {X with s₀:=s,H₀:=H,env:=compEnvC scope (tR scope X.env) C X.env,outer:=X.stack,ex:=fp,fn:=λ_=>false,pn:=[],xe:=λ_ _=>False}
theorem nG(f:Str->NameKind->NameKind):∀(l:List (Str×NameKind))(x:Str),(l.map λy=>(y.1,f y.1 y.2)).lookup x=(l.lookup x).map (f x)
 |[],_=>rfl
 | (n,k)::l,x=>by
  rw[map_cons,lookup_cons,lookup_cons];cases hb:x == n with
  |true=>rw[eq_of_beq hb];rfl
  |false=>exact nG f l x
theorem jz(scope:Scope)(env:PySem.Env)(x:Str):(relabel scope env).names.lookup x=(scope.names.lookup x).map λk=>if(k == NameKind.free && env.scope.kind == .function && env.kindOf x == some .cell)=true then NameKind.cell else k:=by
 rw[<-nG (λn k=>if(k == NameKind.free && env.scope.kind == .function && env.kindOf n == some .cell)=true then NameKind.cell else k)];unfold relabel;dsimp only;congr 1;refine List.map_congr_left λy _=>?_;obtain⟨n,k⟩:=y;dsimp only;split <;> rfl
theorem j0{scope psc:Scope}{env:PySem.Env}{vars:List Str}{x:Str}(hc:cP scope psc vars=true)(h:(relabel scope env).names.lookup x=some .cell\/(relabel scope env).names.lookup x=some .free):scope.names.lookup x=some .free:=by
 rw[jz] at h;cases hl:scope.names.lookup x with
 |none=>rw[hl] at h;simp at h
 |some k=>
  obtain⟨_,h2,h3,_⟩:=lJ hc _ (eh hl);rw[hl] at h;cases k with
  |free=>rfl
  |cell=>exact absurd rfl h3
  |_=>simp at h
theorem uS{scope psc:Scope}{env:PySem.Env}{vars:List Str}{x:Str}(hc:cP scope psc vars=true)(h:Ij (relabel scope env) x):
  (x∈vars)\/(scope.names.lookup x=some .free/\((relabel scope env).names.lookup x=some .cell\/(relabel scope env).names.lookup x=some .free)):=by
 rcases h with h|h|h
 ·rw[jz] at h;cases hl:scope.names.lookup x with
  |none=>rw[hl] at h;simp at h
  |some k=>
   obtain⟨_,h2,h3,_⟩:=lJ hc _ (eh hl);rw[hl] at h;cases k with
   |«local»=>exact .inl (h2 rfl)
   |cell=>exact absurd rfl h3
   |free=>
    simp only[Option.map_some] at h;split at h <;> simp at h
   |_=>simp at h
 ·exact .inr ⟨j0 hc (.inl h),.inl h⟩
 ·exact .inr ⟨j0 hc (.inr h),.inr h⟩
theorem wd{scope psc:Scope}{env:PySem.Env}{vars:List Str}(hc:cP scope psc vars=true)(hf:∀y∈scope.names,y.2=.free->∃c,env.cells.lookup y.1=some c):
  (∀x c,(tR scope env).lookup x=some c->env.cells.lookup x=some c)/\∀x,scope.names.lookup x=some .free->∃c,(tR scope env).lookup x=some c/\env.cells.lookup x=some c:=by
 have h1:∀x c,(tR scope env).lookup x=some c->env.cells.lookup x=some c:=λx c e=>Er scope env scope.names [] (λ_ z=>nomatch z) hf (x,c) (eh e)
 refine⟨h1,λx e=>?_⟩;obtain⟨c,hm⟩:=CF scope env scope.names [] x (.inl (eh e));cases q:(tR scope env).lookup x with
 |some d=>exact⟨d,rfl,h1 x d q⟩
 |none=>
  have:=List.lookup_eq_none_iff.mp q _ hm;simp at this
section
variable{X:Cx}{pins:List (Q9×Obj)}{σ:St}{H:Hp}{s:Q8}{scope:Scope}{vars:List Str}{js:List Nat}{fp:List Q9}{C:Q9}{h₁:Vc}{tk:Nat}
theorem nq(I:aD X pins σ H s)(hc:cP scope X.env.scope vars=true):∀y∈scope.names,y.2=.free->∃c,X.env.cells.lookup y.1=some c:=λy hy e=>by
 obtain⟨_,_,_,h⟩:=lJ hc y hy;exact I.ok.has y.1 (h e)
theorem C7(I:aD X pins σ H s)(hc:cP scope X.env.scope vars=true)(hj:iY X.N vars js=true)(hC:C=s.heap.objs.size)(hfp:∀b∈fp,FpOk X pins H b)(hfo:∀b∈fp,b<s.heap.objs.size)
  {m:Str->Option Q7} (hns:h₁.Ns C m) (keep:∀b o,s.heap.get? b=some o->h₁.get? b=some o):
  aD (cO X scope fp s H C) [] (fG js σ) H {s with heap:=h₁,toks:=tk}:=by
 have hf:=nq I hc;obtain⟨cl1,cl2⟩:=wd hc hf;have ok:(cO X scope fp s H C).Ok:=by
  refine⟨I.ok.mod,?_,I.ok.glob,I.ok.blt,le_of_eq hC.symm,λx y c h1 h2=>I.ok.inj x y c (cl1 x c h1) (cl1 y c h2),λx hx=>?_,(λx c z=>nomatch z),I.ok.hd,I.ok.frames,Or.inl rfl,λb hb=>?_,I.bs,le_trans I.ok.bsz I.sz,λb o e hb=>?_,λb hb z=>?_,I.stack,I.stkFree⟩
  ·show scope.kind=.function;exact mz hc
  ·obtain⟨c,z,_⟩:=cl2 x (j0 hc hx);exact⟨c,z⟩
  ·obtain⟨_,_,_,_,f4,_⟩:=hfp b hb;refine⟨λz=>?_,λx c e=>f4 x c (cl1 x c e)⟩;have h1:=hfo b hb;have h2:b=C:=z;rw[h2,hC] at h1;exact lt_irrefl _ h1
  ·obtain⟨_,_,_,f3,_⟩:=hfp b hb;rcases f3 with z|z
   ·exact I.ok.noex b o e z
   ·exact absurd (lt_of_lt_of_le (lt_size (I.ok.bs b o e).1) z) (lt_irrefl _)
  ·obtain⟨_,f1,f2,_⟩:=hfp b hb;rcases mem_cons.mp (I.stkSub b z) with e|e
   ·exact f1 e
   ·exact f2 e
 refine⟨ok,rfl,I.bare,Un.kept keep,⟨m,hns,λi x v e1 e2 e3=>?_⟩,λx c e=>?_,?_,λx c e=>I.freeC x c (cl1 x c e),(λp hp=>nomatch hp),I.hok.kept keep,?_⟩
 ·obtain⟨nj,e2⟩:=vR js σ i v e2;rcases uS hc e3 with hm|⟨ef,hk⟩
  ·exfalso;have hi:i<X.N.length:=(List.getElem?_eq_some_iff.mp e1).1;have hq:=all_eq_true.mp hj i (mem_range.mpr hi);rcases Bool.or_eq_true_iff.mp hq with z|z
   ·exact nj (List.contains_iff_mem.mp z)
   ·rw[getD_eq_getElem?_getD,show X.N[i]?=some x from e1] at z;have hm':vars.contains x=true:=List.contains_iff_mem.mpr hm;rw[Option.getD_some,hm'] at z;cases z
  ·obtain⟨c,z1,z2⟩:=cl2 x ef;obtain⟨m0,_,hl⟩:=I.loc;obtain⟨_,_,_,hp⟩:=lJ hc _ (eh ef);have hv:Ij X.env.scope x:=(hp rfl).elim (λz=>.inr (.inl z)) λz=>.inr (.inr z);obtain⟨u,r,l⟩:=hl i x v e1 e2 hv;refine⟨u,r,.inr ⟨hk,c,z1,?_⟩⟩;rcases l with⟨k,_⟩|⟨_,c',e,q⟩
   ·have k':X.env.scope.names.lookup x=some .local:=k;rcases hp rfl with z|z
    ·have z':X.env.scope.names.lookup x=some .cell:=z;rw[k'] at z';cases z'
    ·have z':X.env.scope.names.lookup x=some .free:=z;rw[k'] at z';cases z'
   ·rw[z2] at e;cases e;obtain⟨o,ho,hd⟩:=q;exact⟨o,keep _ o ho,hd⟩
 ·obtain⟨v,o,ho,hd⟩:=I.cell x c (cl1 x c e);exact⟨v,o,keep _ o ho,hd⟩
 ·exact I.hok.fresh (le_of_eq hC.symm)
 ·rw[jJ];exact I.len
end
abbrev Fl:Q7->Q8->Prop:=λ_ _=>False
theorem fl{α:Type}{M:Model}{A:Vf}{t:Sem α}{Q Q':α->Q8->Prop}{E:Q7->Q8->Prop}{s:Q8}(h:wpAny M A t Q Fl s)(k:∀a s,Q a s->Q' a s):wpAny M A t Q' E s:=wpAny_mono h k λ_ _ z=>z.elim
def yY(ifs:List Vd)(env:PySem.Env):Sem Bool:=forIn ifs true λc r=>if r=true then do let ok <-isTrue c env (eval c env);pure (ForInStep.yield ok) else pure (ForInStep.yield r)
theorem Ai{prog:Va}{w:Vb}{A:Vf}{R:Result->Q8->Prop}{s:Q8}{elt target iter:Vd}{ifs:List Vd}{scope:Scope}{pos:Pos}{it acc:Q7}{env:PySem.Env}(Iv:Nat->Q8->Prop)
  (turn:∀n s,Iv n s->wpAny (model prog w) A (pyNext it) (λr s₁=>match r with
   |none=>R (.ok .next) s₁
   |some v=>wpAny (model prog w) A (letOwnedTupleGo target it v) (λ_ s₂=>wpAny (model prog w) A (assign target env v) (λ_ s₃=>wpAny (model prog w) A (yY ifs env) (λok s₄=>
     if ok=true then wpAny (model prog w) A (eval elt env) (λx s₅=>wpAny (model prog w) A (call (.builtin "list.append") [acc,x]) (λ_ s₆=>∃m,m<n/\Iv m s₆) Fl s₅) Fl s₄
     else ∃m,m<n/\Iv m s₄) Fl s₃) Fl s₂) Fl s₁) Fl s)
  (n:Nat) (h:Iv n s):codeAny (model prog w) A (.compLoop (.ListComp elt [⟨target,iter,ifs,0⟩] scope pos) 0 it acc env) R s:=by
 refine codeAny_loop rfl Iv (λn s hI=>?_) n h;show wpAny _ A ((compTurn (.ListComp elt [⟨target,iter,ifs,0⟩] scope pos) 0 it acc env).onRaise _) _ _ s;refine wpAny_noted ?_;rw[compTurn_list];refine wpAny_bind (wpAny_standAt (wpAny_bind (fl (turn n s hI) λr s₁ h₁=>?_)));cases r with
 |none=>exact wpAny_pure h₁
 |some v=>
  refine wpAny_bind (fl h₁ λ_ s₂ h₂=>wpAny_bind (fl h₂ λ_ s₃ h₃=>wpAny_bind (fl h₃ λok s₄ h₄=>?_)));cases ok with
  |false=>exact wpAny_pure ⟨rfl,h₄⟩
  |true=>exact wpAny_bind (wpAny_bind (fl h₄ λx s₅ h₅=>wpAny_bind (fl h₅ λ_ s₆ h₆=>wpAny_pure (wpAny_pure ⟨rfl,h₆⟩))))
def GU(X:Cx)(ifs:List Vd)(t:TT):Prop:=∀(pins:List (Q9×Obj))(s:Q8)(σ:St)(H:Hp)(Q:Bool->Hp->Prop),aD X pins σ H s->t σ H Q->wpAny (model X.prog X.w) X.A (yY ifs X.env) (TP X pins σ Q) X.xe s
def EF:TT:=λ_ H Q=>Q true H
theorem yq{X:Cx}:GU X [] EF:=λpins s σ H Q I h=>wpAny_tests_nil ⟨H,I,h⟩
theorem Ds{X:Cx}{c:Vd}{t:TT}(h:PT X c t):GU X [c] t:=λpins s σ H Q I q=>wpAny_tests_one (h pins s σ H Q I q)
def F4(J:It)(g:TG)(tt:TT)(te:TE)(a:Q9)(Q:VK)(W:Nat->Nat->St->List V->Hp->Prop):Prop:=∀i m σ ys H,W i m σ ys H->H a=some (.lst ys)/\
 ((J.stop i H/\Q (.ref a) H)\/(J.go i H/\∀x H1,J.yld i H x H1->g x σ H1 λσ2 H2=>tt σ2 H2 λb H3=>
  if b=true then te σ2 H3 λy H4=>H4 a=some (.lst ys)/\ys.length<sizeLine/\∃m',m'<m/\W (i+1) m' σ2 (ys++[y]) (bW H4 a (.lst (ys++[y]))) else ∃m',m'<m/\W (i+1) m' σ2 ys H3))
def B3(js:List Nat)(wi:TI)(g:TG)(tt:TT)(te:TE):TE:=λσ H Q=>wi σ H λJ H1=>∀a,H1 a=none->∃W,(∃m,W 0 m (fG js σ) [] (bW H1 a (.lst [])))/\F4 J g tt te a Q W
section
variable{X:Cx}{scope:Scope}{vars:List Str}{js:List Nat}{elt tg iter:Vd}{ifs:List Vd}{pos:Pos}{wi:TI}{g:TG}{tt:TT}{te:TE}
theorem rn{pins:List (Q9×Obj)}{s:Q8}{σ:St}{H:Hp}{it:Q9}{fp:List Q9}{tn:Nat->Vc->Prop}{J:It}{Q:VK}{E:Q7->Q8->Prop}{RR:Q7->Q9->Result->Q8->Prop}(hc:cP scope X.env.scope vars=true)(hj:iY X.N vars js=true)(hcalm:X.calm=true)
  (hg:∀fp s H C,PG (cO X scope fp s H C) tg g) (ht:∀fp s H C,GU (cO X scope fp s H C) ifs tt) (he:∀fp s H C,PE (cO X scope fp s H C) elt te)
  (I:aD X pins σ H s) (T:u7 X.prog X.w X.K tg J fp it tn) (st:tn 0 s.heap) (hfp:∀b∈fp,FpOk X pins H b) (q:∀a,H a=none->∃W,(∃m,W 0 m (fG js σ) [] (bW H a (.lst [])))/\F4 J g tt te a Q W)
  (fin:∀a C H' s' m,aD X pins σ H' s'->s'.heap.Ns C m->H' C=none->C≠X.env.locals->X.s₀.heap.objs.size<=C->(∀x c,X.env.cells.lookup x=some c->c≠C)->(∀p∈X.pn++pins,p.1≠C)->Q (.ref a) H'->RR (.ref a) C (.ok .next) s'):
  wpAny (model X.prog X.w) X.A (newList []) (λacc s₃=>wpAny (model X.prog X.w) X.A (newFunctionEnv scope X.env.globals (tR scope X.env) [] X.env.qual none .none (some X.env)) (λcenv s₄=>
   codeAny (model X.prog X.w) X.A (.compStart (.ListComp elt [⟨tg,iter,ifs,0⟩] scope pos) 0 (.ref it) acc {cenv with scope:=relabel scope X.env}) (RR acc cenv.locals) s₄) E s₃) E s:=by
 have nocell:∀y∈scope.names,y.2≠.cell:=λy hy=>(lJ hc y hy).2.2.1;refine wpAny_newObj_type (wpAny_newFunctionEnv nocell (by intro y hy;simp at hy) (λh₁ hns hsb=>?_) (mz hc))
 dsimp only at hns hsb ⊢;generalize hA:s.heap.objs.size=a at *;have fa:H a=none:=by rw[<-hA];exact I.fresh
 obtain⟨W,⟨m0,w0⟩,hW⟩:=q a fa;have I3:aD X pins σ (bW H a (.lst [])) {s with heap:=s.heap.push {cls:=.type "list",data:=.seq ([]:List Q7).toArray}}:=by
  rw[<-hA];exact I.lnew (t':=s.toks) (ys:=[]) (its:=[]) .nil (zero_le _)
 generalize hB:s.heap.push {cls:=.type "list",dict:=none,data:=.seq ([]:List Q7).toArray}=hp at *;have szp:hp.objs.size=a+1:=by rw[<-hB,size_push,hA]
 have keep:∀b o,hp.get? b=some o->h₁.get? b=some o:=λb o e=>(hsb.2 b (ne_of_lt (lt_size e))).trans (get?_push_of_some _ e);have up:∀b o,s.heap.get? b=some o->hp.get? b=some o:=λb o e=>by rw[<-hB];exact get?_push_of_some _ e
 have lo:∀b∈fp,b<a:=λb hb=>by
  obtain⟨o,e,_⟩:=T.obj 0 _ st b hb;rw[<-hA];exact lt_size e
 have hfp3:∀b∈fp,FpOk X pins (bW H a (.lst [])) b:=λb hb=>⟨by rw[ak (ne_of_lt (lo b hb))];exact(hfp b hb).1,(hfp b hb).2⟩
 have I4:=C7 (tk:=s.toks+([]:List (Str×Q7)).length) I3 hc hj rfl hfp3 (λb hb=>by show b<hp.objs.size;rw[szp];exact lt_succ_of_lt (lo b hb)) hns keep
 generalize hX:cO X scope fp {s with heap:=hp} (bW H a (.lst [])) hp.objs.size=X' at I4;have eP:X'.prog=X.prog:=by rw[<-hX];rfl
 have eW:X'.w=X.w:=by rw[<-hX];rfl
 have eK:X'.K=X.K:=by rw[<-hX];rfl
 have eA:X'.A=X.A:=by rw[<-hX];rfl
 have eC:X'.calm=true:=by rw[<-hX];exact hcalm
 have eL:X'.env.locals=hp.objs.size:=by rw[<-hX];rfl
 have eE:X'.env=compEnvC scope (tR scope X.env) hp.objs.size X.env:=by rw[<-hX];rfl
 have eX:X'.ex=fp:=by rw[<-hX];rfl
 have exe:X'.xe=Fl:=by rw[<-hX];rfl
 have epn:X'.pn=[]:=by rw[<-hX];rfl
 have hg':PG X' tg g:=by rw[<-hX];exact hg _ _ _ _
 have ht':GU X' ifs tt:=by rw[<-hX];exact ht _ _ _ _
 have he':PE X' elt te:=by rw[<-hX];exact he _ _ _ _
 have stat:∀{H':Hp},(∀b∈fp,H' b=none)->∀b∈fp,FpOk X' [] H' b:=λhn b hb=>by
  have hb':b∈X'.ex:=by rw[eX];exact hb
  exact⟨hn b hb,(I4.ok.exf b hb').1,I4.ok.exfs b hb',.inl hb',(I4.ok.exf b hb').2,λp hp=>by rw[epn] at hp;cases hp⟩
 have back:∀{σ':St}{H':Hp}{s':Q8},aD X' [] σ' H' s'->Q (.ref a) H'->RR (.ref a) hp.objs.size (.ok .next) s':=λ{σ' H' s'} J qf=>by
  obtain⟨m,hn,_⟩:=J.loc;rw[eL] at hn;have hfree:=J.free;rw[eL] at hfree;have jos:=J.os;have jbase:=J.base;have jhok:=J.hok;rw[<-hX] at jos jbase jhok;refine fin a _ H' s' m (I3.call' (ch:=fp) jos jbase jhok J.bare λb hb=>⟨(hfp b hb).2.2.2.1,(hfp b hb).2.1,(hfp b hb).2.2.2.2.1,(hfp b hb).2.2.2.2.2⟩) hn hfree (ne_of_gt I3.lt) I3.sz (λx c e z=>?_) (λp hp' z=>?_) qf
  ·obtain⟨v,o,ho,_⟩:=I3.cell x c e;have:=lt_size ho;rw[z] at this;exact lt_irrefl _ this
  ·have:=lt_size (I3.pin p hp').1;rw[z] at this;exact lt_irrefl _ this
 have st1:tn 0 h₁:=T.keep 0 _ _ st λb hb o e=>keep b o (up b o e);have loop:codeAny (model X.prog X.w) X.A (.compLoop (.ListComp elt [⟨tg,iter,ifs,0⟩] scope pos) 0 (.ref it) (.ref a) X'.env) (RR (.ref a) hp.objs.size) {s with heap:=h₁,toks:=s.toks+([]:List (Str×Q7)).length}:=by
  refine Ai (λn s'=>∃i σ' ys H',aD X' [] σ' H' s'/\tn i s'.heap/\(∀b∈fp,H' b=none)/\W i n σ' ys H') ?_ m0 ⟨0,_,[],_,I4,st1,λb hb=>(hfp3 b hb).1,w0⟩
  rintro n s3 ⟨i,σ3,ys,H3,J3,st3,fr3,w3⟩
  obtain⟨ha,hw⟩:=hW i n σ3 ys H3 w3;rcases hw with⟨stop,qn⟩|⟨go,step⟩
  ·have z:=T.done X' eP eW eK eC i [] s3 σ3 H3 Fl J3 (stat fr3) st3 stop;rw[eA] at z;refine cA z λr s4 ⟨hr,J4⟩=>?_;subst hr;exact back J4 qn
  ·have z:=T.item X' eP eW eK eC i [] s3 σ3 H3 Fl J3 (stat fr3) st3 go;rw[eA] at z;refine cA z λr s4 ⟨u,hr,h4⟩=>?_;subst hr;refine cA h4 λ_ s5 ⟨x,H5,J5,r5,y5,st5,fr5⟩=>?_;have J5':=J5.pinned (stat fr5) (T.obj _ _ st5);have z5:=hg' _ s5 σ3 H5 x u _ J5' r5 (step x H5 y5);rw[eP,eW,eA,exe] at z5;refine cA z5 λ_ s6 ⟨σ6,H6,J6,q6⟩=>?_;have z6:=ht' _ s6 σ6 H6 _ J6 q6;rw[eP,eW,eA,exe] at z6;refine cA z6 λok s7 ⟨H7,J7,q7⟩=>?_;have again:∀{σ8:St}{H8:Hp}{s8:Q8}{ys8:List V}{m':Nat},aD X' ([]++oP fp s5.heap) σ8 H8 s8->m'<n->W (i+1) m' σ8 ys8 H8->∃m,m<n/\∃i σ' ys H',aD X' [] σ' H' s8/\tn i s8.heap/\(∀b∈fp,H' b=none)/\W i m σ' ys H':=λ{σ8 H8 s8 ys8 m'} J8 hm w8=>by
    refine⟨m',hm,i+1,σ8,ys8,H8,J8.unpinned,T.keep _ _ _ st5 λb hb o e=>(J8.pin (b,o) (mem_append_right _ (mem_append_right _ (j7 hb e)))).1,λb hb=>?_,w8⟩;obtain⟨o,e,d⟩:=T.obj _ _ st5 b hb;exact(J8.pin (b,o) (mem_append_right _ (mem_append_right _ (j7 hb e)))).2.1
   cases ok with
   |false=>
    rw[if_neg Bool.false_ne_true] at q7 ⊢;obtain⟨m',hm,w7⟩:=q7;exact again J7 hm w7
   |true=>
    rw[if_pos rfl] at q7 ⊢;have z7:=he' _ s7 σ6 H7 _ J7 q7;rw[eP,eW,eA,exe] at z7;refine cA z7 λv s8 ⟨y,H8,J8,r8,h8,hl8,m',hm,w8⟩=>?_;have z8:=iM _ s8 σ6 H8 (.ref a) [y] (.ref a) [v] (λ_ H9=>H9=bW H8 a (.lst (ys++[y]))) J8 rfl (.cons r8 .nil) ⟨a,ys,y,rfl,rfl,h8,hl8,rfl⟩;rw[eP,eW,eA,exe] at z8;refine cA z8 λ_ s9 ⟨_,H9,J9,_,q9⟩=>?_;subst q9;exact again J9 hm w8
 rw[eE] at loop;exact codeAny_compStart_list loop (T.self _ 0 _ _ _ st1 loop)
theorem yu(hc:cP scope X.env.scope vars=true)(hj:iY X.N vars js=true)(hcalm:X.calm=true)(hi:PI X tg iter wi)
  (hg:∀fp s H C,PG (cO X scope fp s H C) tg g) (ht:∀fp s H C,GU (cO X scope fp s H C) ifs tt) (he:∀fp s H C,PE (cO X scope fp s H C) elt te) (hs:∀x,foldedSetIterable iter X.env x=pure x:=by intro _;rfl):
  PE X (.ListComp elt [⟨tg,iter,ifs,0⟩] scope pos) (B3 js wi g tt te):=by
 intro pins s σ H Q I h;rw[eval_ListComp];refine wpAny_comprehension_free (use:=none) rfl hs (kK (nq I hc)) (mz hc) (λy hy e=>by rw[(lJ hc y hy).1,e]) (cA (hi pins s σ H _ I h) λv s1 h1=>cA h1 λitv s2 h2=>?_)
 obtain⟨it,fp,tn,J,H2,e,I2,T,st2,f2,q⟩:=h2;subst e;refine rn (RR:=λacc C=>compPost (model X.prog X.w) X.A X.xe none (EP X pins σ Q) acc C) hc hj hcalm hg ht he I2 T st2 f2 q ?_;intro a C H' s' m J' hn hC hL hS hcell hpin q';exact⟨m,hn,λh' sb=>⟨.ref a,H',J'.turned (t':=s'.toks) (λb o hb e=>(sb.2 b hb).trans e) hC hL (.inr hS) hcell hpin,rfl,q'⟩⟩
theorem wY{i:Nat}{x:Str}{pos' spos:Pos}(hN:X.N.Nodup)(hi':X.N[i]?=some x)(hx:rO X.env.scope x)(hc:cP scope X.env.scope vars=true)(hj:iY X.N vars js=true)(hcalm:X.calm=true)(hi:PI X tg iter wi)
  (hg:∀fp s H C,PG (cO X scope fp s H C) tg g) (ht:∀fp s H C,GU (cO X scope fp s H C) ifs tt) (he:∀fp s H C,PE (cO X scope fp s H C) elt te)
  (hsw:swapsWith (.ListComp elt [⟨tg,iter,ifs,0⟩] scope pos) (some (.Name x pos')) spos.line X.env=pure true:=by rfl) (hs:∀x,foldedSetIterable iter X.env x=pure x:=by intro _;rfl)
  (hf:X.fn x=true\/X.env.scope.names.lookup x=some .local:=by first|exact .inl rfl|exact .inr rfl|assumption):
  PS X (.Assign [.Name x pos'] (.ListComp elt [⟨tg,iter,ifs,0⟩] scope pos) spos) (B4 (B3 js wi g tt te) (vO i)):=by
 intro pins s σ H D I h;rw[exec_Assign_Name_used _ _ _ _ hsw];refine wpAny_bind (wpAny_standAt (wpAny_bind ?_));show wpAny _ X.A (do let _ <-comprehension (.ListComp elt [⟨tg,iter,ifs,0⟩] scope pos) scope X.env _ (newList []) false (eval iter X.env) (some (assign (.Name x pos') X.env))) _ _ s
 refine wpAny_bind (wpAny_mono (wpAny_comprehension_free (use:=some (assign (.Name x pos') X.env)) (Q:=λ_ s'=>SP X pins D .next s') rfl hs (kK (nq I hc)) (mz hc) (λy hy e=>by rw[(lJ hc y hy).1,e])
  (cA (hi pins s σ H _ I h) λv s1 h1=>cA h1 λitv s2 h2=>?_)) (λ_ s' hq=>wpAny_pure (wpAny_pure hq)) λ_ _ e=>e)
 obtain⟨it,fp,tn,J,H2,e,I2,T,st2,f2,q⟩:=h2;subst e;refine rn (RR:=λacc C=>compPost (model X.prog X.w) X.A X.xe (some (assign (.Name x pos') X.env)) (λ_ s'=>SP X pins D .next s') acc C) hc hj hcalm hg ht he I2 T st2 f2 q ?_;intro a C H' s' m J' hn hC hL hS hcell hpin q';refine wpAny_assign_Name (qH J' hN hi' hx (v:=.ref a) rfl (λs'' J2 ⟨b,sb,hb⟩=>?_) hf);have hCb:C≠b:=by
  rcases hb with z|z
  ·rw[z];exact hL
  ·exact(hcell x b z).symm
 exact⟨m,hn.sameBut sb hCb,λh' sb'=>⟨_,H',J2.turned (t':=s''.toks) (λb o hb e=>(sb'.2 b hb).trans e) hC hL (.inr hS) hcell hpin,q'⟩⟩
end
end L2
namespace L3
open PySem PySem.Spec PyProof.Rows L2
theorem qw(js:List Nat):∀ρ:aA,(dO js ρ).length=ρ.length:=by
 induction js with
 |nil=>intro ρ;rfl
 |cons j js ih=>intro ρ;show(dO js (ρ.set j none)).length=_;rw[ih,length_set]
theorem lF(js:List Nat):∀(ρ:aA)(i:Nat)(v:S),(dO js ρ)[i]?=some (some v)->i∉js/\ρ[i]?=some (some v):=by
 induction js with
 |nil=>intro ρ i v h;exact⟨by simp,h⟩
 |cons j js ih=>
  intro ρ i v h;obtain⟨h1,h2⟩:=ih (ρ.set j none) i v h;by_cases hj:j=i
  ·subst hj;by_cases hl:j<ρ.length
   ·rw[getElem?_set_self hl] at h2;cases h2
   ·rw[getElem?_eq_none (by rw[length_set];omega)] at h2;cases h2
  ·rw[getElem?_set_ne hj] at h2;exact⟨by simp[h1,Ne.symm hj],h2⟩
theorem vQ(js:List Nat):∀(σ:L2.St)(i:Nat),i∉js->(fG js σ)[i]?=σ[i]?:=by
 induction js with
 |nil=>intro σ i _;rfl
 |cons j js ih=>
  intro σ i h;have h':i≠j/\i∉js:=by simpa using h
  show(fG js (σ.set j none))[i]?=_;rw[ih _ _ h'.2,getElem?_set_ne (Ne.symm h'.1)]
section
variable{Γ:Ct}{B0 B1 Hs H:Hp}{σ σ':L2.St}{ρ ρ':aA}
theorem RE.sub(r:RE Γ B0 B1 Hs H σ ρ)(hl:ρ'.length=σ'.length)(h:∀(i:Nat)(s:S),ρ'[i]?=some (some s)->ρ[i]?=some (some s)/\σ'[i]?=σ[i]?):RE Γ B0 B1 Hs H σ' ρ' where
 tb:=r.tb
 b:=r.b
 sh:=λi d e=>by
  obtain⟨e1,e2⟩:=h i _ e;obtain⟨v,e3,q⟩:=r.sh i d e1;exact⟨v,e2.trans e3,q⟩
 own:=λi o e=>by
  obtain⟨e1,e2⟩:=h i _ e;obtain⟨a,ho,e3,f1,f2,f3,q⟩:=r.own i o e1;exact⟨a,ho,e2.trans e3,f1,f2,f3,q⟩
 apart:=λi j o u a hij hi hj ha=>by
  obtain⟨e1,e2⟩:=h i _ hi;obtain⟨e3,e4⟩:=h j _ hj;rw[e4];exact r.apart i j o u a hij e1 e3 (e2.symm.trans ha)
 len:=hl
theorem RE.other(r:RE Γ B0 B1 Hs H σ ρ){a:Q9}{ho:HO}(h1:Hs a=none)(h2:B1 a=none)(h3:∀(i:Nat)(o:O),ρ[i]?=some (some (.own o))->σ[i]?≠some (some (.ref a))):RE Γ B0 B1 Hs (bW H a ho) σ ρ where
 tb:=r.tb
 b:=⟨r.b.s,λb u z=>by rw[ak (bc z h2)];exact r.b.h _ _ z,λb u z=>by rw[ak (bc z h1)];exact r.b.i _ _ z,r.b.n⟩
 sh:=r.sh
 own:=λi o e=>by
  obtain⟨c,hc,f1,f2,f3,f4,f5⟩:=r.own i o e;refine⟨c,hc,f1,f2,f3,?_,f5⟩;rw[ak]
  ·exact f4
  ·intro z;subst z;exact h3 i o e f1
 apart:=r.apart
 len:=r.len
end
theorem bt.other{Hs H Hs' H':Hp}{a:Q9}{ho:HO}(g:bt Hs H Hs' H')(h0:H a=none)(h1:Hs' a=none):bt Hs H Hs' (bW H' a ho):=
 ⟨g.s,λb u z=>by rw[ak (bc z h0)];exact g.h _ _ z,λb u z=>by rw[ak (bc z h1)];exact g.i _ _ z,g.n⟩
theorem bt.none{Hs H Hs' H':Hp}{a:Q9}{ho:HO}(g:bt Hs H Hs' H')(h:Hs a=Option.none)(h':H a=some ho):Hs' a=Option.none:=by
 cases z:Hs' a with
 |none=>rfl
 |some u=>
  rcases g.n a u z with w|w
  ·rw[h] at w;cases w
  ·rw[h'] at w;cases w
def AE(js:List Nat)(bd:MB):Prop:=∀d ρ ρ',bd d ρ=some ρ'->ρ'.length=ρ.length/\∀i:Nat,i∉js->ρ'[i]?=ρ[i]?
theorem bF(j:Nat):AE [j] (aY j):=λd ρ ρ' e=>by
 cases e;exact⟨by rw[length_set],λi hi=>getElem?_set_ne λz=>hi (by simp[z])⟩
theorem qN:∀(js:List Nat)(ds:List D)(ρ:aA),(sA js ds ρ).length=ρ.length/\∀i:Nat,i∉js->(sA js ds ρ)[i]?=ρ[i]?
 |[],_,_=>⟨rfl,λ_ _=>rfl⟩
 |_::_,[],_=>⟨rfl,λ_ _=>rfl⟩
 |j::js,d::ds,ρ=>by
  obtain⟨h1,h2⟩:=qN js ds (ρ.set j (some (.sh d)));refine⟨h1.trans length_set,λi hi=>?_⟩;have h':i≠j/\i∉js:=by simpa using hi
  exact(h2 i h'.2).trans (getElem?_set_ne (Ne.symm h'.1))
theorem pN(js:List Nat):AE js (mH js):=λd ρ ρ' e=>by
 cases d with
 |tup ds=>
  unfold mH at e;dsimp only at e;split at e
  ·cases e;exact qN js ds ρ
  ·cases e
 |_=>cases e
section
variable{Γ:Ct}{W:XW}{js:List Nat}{gi:MI}{bd:MB}{cond elt:ME}
inductive JJ(Γ:Ct)(bd:MB)(cond elt:ME)(ρf:aA)(ds:List D)(r:R)(B0 B1 Hs1 Hs H:Hp)(a:Q9)(i m:Nat)(σ2:L2.St)(ys:List V)(H2:Hp):Prop
 |mk (e:m=ds.length - i) (hi:i<=ds.length) (Hs2:Hp) (acc:List D) (sm:aj Hs1 Hs2) (g2:bt Hs H Hs2 H2) (re:RE Γ B0 B1 Hs2 H2 σ2 ρf) (ha:Hs2 a=none) (ap:∀(i:Nat)(o:O),ρf[i]?=some (some (.own o))->σ2[i]?≠some (some (.ref a))) (hy:H2 a=some (.lst ys)) (rl:RepL Γ Hs2 acc ys) (ec:eZ bd cond elt ρf (ds.drop i) acc=some r) (hacc:acc.length<=i)
theorem sk{tt:TT}(ht:∀σ H Q,tT Γ W cond σ H Q->tt σ H Q)(hb:AE js bd){σ:L2.St}{H:Hp}{Q:VK}(t:tD Γ W (b3 js gi bd cond elt) σ H Q):
  B3 js (tI Γ W gi) (IZ Γ js bd) tt (tD Γ W elt) σ H Q:=by
 obtain⟨B0,B1,Hs,ρ,r,re,e,q⟩:=t;unfold b3 at e;cases h:gi ρ with
 |none=>rw[h] at e;cases e
 |some x=>
  rw[h] at e;refine⟨B0,B1,Hs,ρ,x,re,h,?_⟩;cases x with
  |exc y=>cases e;exact q
  |ok ds=>
   intro J Hs1 H1 g1 w a ha;dsimp only at e;have hlim:ds.length<=lim:=by
    by_cases z:ds.length<=lim
    ·exact z
    ·rw[if_neg z] at e;cases e
   rw[if_pos hlim] at e;have hs1:Hs1 a=none:=g1.i.free ha;have h0:H a=none:=g1.h.free ha;have hb1:B1 a=none:=re.b.h.free h0;have re1:RE Γ B0 B1 Hs1 H1 (fG js σ) (dO js ρ):=(re.grow g1).sub (by rw[qw,jJ,re.len]) λi s z=>by
    obtain⟨z1,z2⟩:=lF js ρ i s z;exact⟨z2,vQ js σ i z1⟩
   have ap1:∀(i:Nat)(o:O),(dO js ρ)[i]?=some (some (.own o))->(fG js σ)[i]?≠some (some (.ref a)):=λi o z z'=>by
    obtain⟨c,hc,f1,_,_,f4,_⟩:=re1.own i o z;rw[z'] at f1;cases f1;rw[ha] at f4;cases f4
   refine⟨JJ Γ bd cond elt (dO js ρ) ds r B0 B1 Hs1 Hs H a,⟨_,rfl,zero_le _,Hs1,[],.refl _,g1.other h0 hs1,re1.other hs1 hb1 ap1,hs1,ap1,aF,.nil,e,zero_le _⟩,?_⟩
   rintro i m σ2 ys H2 ⟨rfl,hi,Hs2,acc,sm,g2,re2,ha2,ap,hy,rl,ec,hacc⟩
   refine⟨hy,?_⟩;by_cases hlt:i<ds.length
   ·refine .inr ⟨w.go i Hs2 H2 hlt sm re2.b.i,λx H3 y=>?_⟩;obtain⟨d,Hs3,ed,g3,rp⟩:=w.yld i Hs2 H2 x H3 hlt sm re2.b.i y;have hd:ds.drop i=d::ds.drop (i+1):=by
     rw[List.drop_eq_getElem_cons hlt];congr 1;rw[getElem?_eq_getElem hlt] at ed;exact Option.some.inj ed
    rw[hd] at ec;unfold eZ at ec;cases hbd:bd d (dO js ρ) with
    |none=>rw[hbd] at ec;cases ec
    |some ρ1=>
     rw[hbd] at ec;dsimp only at ec;obtain⟨bl,bo⟩:=hb d _ ρ1 hbd;refine⟨B0,B1,Hs3,dO js ρ,d,ρ1,re2.grow g3,rp,hbd,λσ4 re4 hσ=>?_⟩;have low:∀{Hs5 H5:Hp},RE Γ B0 B1 Hs5 H5 σ4 ρ1->RE Γ B0 B1 Hs5 H5 σ4 (dO js ρ):=λr5=>r5.sub (by rw[<-bl,r5.len]) λk s z=>by
      obtain⟨z1,_⟩:=lF js ρ k s z;exact⟨(bo k z1).trans z,rfl⟩
     have ap4:∀(k:Nat)(o:O),(dO js ρ)[k]?=some (some (.own o))->σ4[k]?≠some (some (.ref a)):=λk o z=>by
      obtain⟨z1,_⟩:=lF js ρ k _ z;rw[hσ k z1];exact ap k o z
     have ha3:=g3.none ha2 hy;have hy3:=g3.h _ _ hy;refine ht _ _ _ ?_;cases hcv:cond ρ1 with
     |none=>rw[hcv] at ec;cases ec
     |some c=>
      rw[hcv] at ec;refine⟨B0,B1,Hs3,ρ1,c,re4,hcv,?_⟩;cases c with
      |exc x=>
       cases ec;exact λHs' H' g'=>q Hs' H' ((g2.trans g3).trans g')
      |ok s=>
       obtain⟨b,eb,ec2⟩:=fX (show asB s.val _=some r from ec);refine⟨b,eb,λHs5 H5 g5=>?_⟩;have ha5:=g5.none ha3 hy3;have hy5:=g5.h _ _ hy3;have re5:=re4.grow g5;cases b with
       |false=>
        rw[if_neg Bool.false_ne_true] at ec2;refine HW ?_;exact⟨_,by omega,rfl,hlt,Hs5,acc,(sm.trans g3.s).trans g5.s,(g2.trans g3).trans g5,low re5,ha5,ap4,hy5,rl.mono (g3.s.trans g5.s),ec2,by omega⟩
       |true=>
        rw[if_pos rfl] at ec2;refine HV ?_;refine(bu (k:=λx=>eZ bd cond elt (dO js ρ) (ds.drop (i+1)) (acc++[x])) re5 ec2 ((q.grow (g2.trans g3)).grow g5)).mono λv H6 ⟨Hs6,z,g6,re6,rp6,ec6,q6⟩=>?_;have ha6:=g6.none ha5 hy5;have hy6:=g6.h _ _ hy5;have hlen:acc.length=ys.length:=rl.length;have hbig:ys.length<sizeLine:=lt_of_lt_of_le (by omega:ys.length<lim) (by decide)
        refine⟨hy6,hbig,_,by omega,rfl,hlt,Hs6,acc++[z],((sm.trans g3.s).trans g5.s).trans g6.s,(((g2.trans g3).trans g5).trans g6).other h0 ha6,(low re6).other ha6 hb1 ap4,ha6,ap4,aF,(rl.mono ((g3.s.trans g5.s).trans g6.s)).append (.cons rp6 .nil),ec6,by rw[length_append,length_singleton];omega⟩
   ·have ei:i=ds.length:=by omega
    subst ei;rw[drop_length] at ec;unfold eZ at ec;split at ec
    ·cases ec;exact .inl ⟨w.stop Hs2 H2 sm re2.b.i,q _ Hs2 H2 g2 ⟨a,_,rfl,h0,ha2,hy,ys,rfl,rl⟩⟩
    ·cases ec
end
section
variable{X:Cx}{Γ:Ct}{W:XW}{scope:Scope}{vars:List Str}{js:List Nat}{elt tg iter c:Vd}{pos:Pos}{gi:MI}{bd:MB}{cond ge:ME}
theorem yf{σ:L2.St}{H:Hp}{Q:Bool->Hp->Prop}(t:tT Γ W bf σ H Q):EF σ H Q:=by
 obtain⟨B0,B1,Hs,ρ,r,re,e,q⟩:=t;cases e;obtain⟨b,eb,q⟩:=q;cases eb;exact q Hs H (.refl re.b.i)
theorem fF(hb:AE js bd)(hc:cP scope X.env.scope vars=true)(hj:iY X.N vars js=true)(hcalm:X.calm=true)(hi:AC X Γ W tg iter gi)
  (hg:∀fp s H a,F2 (cO X scope fp s H a) Γ tg js bd) (he:∀fp s H a,PD (cO X scope fp s H a) Γ W elt ge) (hs:∀x,foldedSetIterable iter X.env x=pure x:=by intro _;rfl):
  PD X Γ W (.ListComp elt [⟨tg,iter,[],0⟩] scope pos) (b3 js gi bd bf ge):=
 PE.imp (yu hc hj hcalm hi hg (λ_ _ _ _=>yq) he hs) λ_ _ _ _ _ _ t=>sk (λ_ _ _ z=>yf z) hb t
theorem zU(hb:AE js bd)(hc:cP scope X.env.scope vars=true)(hj:iY X.N vars js=true)(hcalm:X.calm=true)(hi:AC X Γ W tg iter gi)
  (hg:∀fp s H a,F2 (cO X scope fp s H a) Γ tg js bd) (ht:∀fp s H a,wu (cO X scope fp s H a) Γ W c cond) (he:∀fp s H a,PD (cO X scope fp s H a) Γ W elt ge) (hs:∀x,foldedSetIterable iter X.env x=pure x:=by intro _;rfl):
  PD X Γ W (.ListComp elt [⟨tg,iter,[c],0⟩] scope pos) (b3 js gi bd cond ge):=
 PE.imp (yu hc hj hcalm hi hg (λfp s H a=>Ds (ht fp s H a)) he hs) λ_ _ _ _ _ _ t=>sk (λ_ _ _ z=>z) hb t
variable{i:Nat}{x:Str}{pos' spos:Pos}
theorem uY{st:Ve}{t:TE}{ge:ME}(h:PS X st (B4 t (vO i)))(ht:∀σ H Q,tD Γ W ge σ H Q->t σ H Q)(hi:i<X.N.length):ox X Γ W st (sSet i ge):=PS.imp h λpins s σ H D I ⟨B0,B1,Hs,ρ,o,re,e,q⟩=>by
 refine ht _ _ _ ((wG re e q).mono λv H1 ⟨Hs1,s,g1,rs,e1⟩=>?_);cases e1;exact q _ Hs1 H1 g1.s (re.setS g1 (by rw[I.len];exact hi) rs)
theorem gF(hN:X.N.Nodup)(hi':X.N[i]?=some x)(hx:rO X.env.scope x)(hb:AE js bd)(hc:cP scope X.env.scope vars=true)(hj:iY X.N vars js=true)(hcalm:X.calm=true)(hi:AC X Γ W tg iter gi)
  (hg:∀fp s H a,F2 (cO X scope fp s H a) Γ tg js bd) (he:∀fp s H a,PD (cO X scope fp s H a) Γ W elt ge)
  (hsw:swapsWith (.ListComp elt [⟨tg,iter,[],0⟩] scope pos) (some (.Name x pos')) spos.line X.env=pure true:=by rfl) (hs:∀x,foldedSetIterable iter X.env x=pure x:=by intro _;rfl)
  (hf:X.fn x=true\/X.env.scope.names.lookup x=some .local:=by first|exact .inl rfl|exact .inr rfl|assumption):
  ox X Γ W (.Assign [.Name x pos'] (.ListComp elt [⟨tg,iter,[],0⟩] scope pos) spos) (sSet i (b3 js gi bd bf ge)):=
 uY (wY hN hi' hx hc hj hcalm hi hg (λ_ _ _ _=>yq) he hsw hs hf) (λ_ _ _ t=>sk (λ_ _ _ z=>yf z) hb t) (List.getElem?_eq_some_iff.mp hi').1
theorem eQ{l:Vd}{g:ME}(hK:X.K=Γ.K)(h:PD X Γ W l g):AC X Γ W tg l (fB g):=PI.imp (Fx h) λ_ _ σ H Q _ ⟨B0,B1,Hs,ρ,r,re,e,q⟩=>by
 unfold fB at e;cases hg:g ρ with
 |none=>rw[hg] at e;cases e
 |some y=>
  rw[hg] at e;cases y with
  |exc z=>
   cases e;exact⟨B0,B1,Hs,ρ,_,re,hg,q⟩
  |ok s=>
   refine⟨B0,B1,Hs,ρ,.ok s,re,hg,λv Hs' H' g' rs=>?_⟩;obtain⟨Hs2,g2,_,rp⟩:=rs.share g';dsimp only at e;cases hv:s.val with
   |lst ds=>
    rw[hv] at e rp;cases e;obtain⟨a,xs,rfl,rd,rl⟩:=aH.mp rp;rw[<-hK] at rd;exact⟨a,rfl,.inl ⟨⟨xs,aj.seq g2.i rd⟩,q _ Hs2 H' g2 (zp rd rl)⟩⟩
   |tup ds=>
    rw[hv] at e rp;cases e;obtain⟨a,xs,rfl,sq,rl⟩:=aS.mp rp;rw[<-hK] at sq;exact⟨a,rfl,.inr ⟨⟨xs,b9 g2.i sq⟩,q _ Hs2 H' g2 (AQ sq rl)⟩⟩
   |non=>rw[hv] at e;cases e
   |bl _=>rw[hv] at e;cases e
   |int _=>rw[hv] at e;cases e
   |str _=>rw[hv] at e;cases e
   |fn _ _=>rw[hv] at e;cases e
   |obj _ _ _=>rw[hv] at e;cases e
theorem su{B0 B1 Hs H:Hp}{σ:L2.St}{ρ:aA}{g:ME}{k:D->Option RI}{r:RI}{Q:It->Hp->Prop}(re:RE Γ B0 B1 Hs H σ ρ)(e:mn g ρ k=some r)(q:IQ Γ W Hs H r Q):
  tD Γ W g σ H (λv H1=>∃Hs1 d,bt Hs H Hs1 H1/\RE Γ B0 B1 Hs1 H1 σ ρ/\bI Γ Hs1 d v/\k d=some r/\IQ Γ W Hs1 H1 r Q):=by
 unfold mn at e;cases h:g ρ with
 |none=>rw[h] at e;cases e
 |some x=>
  rw[h] at e;refine⟨B0,B1,Hs,ρ,x,re,h,?_⟩;cases x with
  |exc y=>cases e;exact q
  |ok s=>
   intro v Hs' H' g' rs;obtain⟨Hs'',g2,_,rp⟩:=rs.share g';refine⟨Hs'',s.val,g2,re.grow g2,rp,e,?_⟩;cases r with
   |ok ds=>exact λJ Hs3 H3 g3 w=>q J Hs3 H3 (g2.trans g3) w
   |exc y=>exact λHs3 H3 g3=>q Hs3 H3 (g2.trans g3)
theorem C9{i:Int}(h:r9 i=true):-(2 ^ 62)<=i/\i<2 ^ 62:=by
 unfold r9 at h;simpa using h
theorem bZ{a:Vd}{g:ME}{p p':Pos}(hg:Gl X "range")(hm:X.mg "range" = none)(h:PD X Γ W a g)(hst:starEach (a::[]) X.env=(false,eval a X.env)::starEach [] X.env:=by rfl)(hs:starEach [a] X.env=[(false,eval a X.env)]:=by rfl):
  AC X Γ W tg (.Call (.Name "range" p) [a] [] p') (b7 g):=PI.imp (zS hg hm (bH h de hst) hs) λ_ _ σ H Q _ ⟨B0,B1,Hs,ρ,r,re,e,q⟩=>by
 refine(su re e q).mono λv H1 ⟨Hs1,d,g1,re1,rp,e1,q1⟩=>?_;cases d with
 |int hi=>
  dsimp only at e1;split at e1
  ·rename_i hr;cases e1;obtain⟨h1,h2⟩:=C9 hr;refine⟨hi,by rw[ah.mp rp],h1,h2,q1 _ Hs1 H1 (.refl re1.b.i) ?_⟩
   have w:=AR (Γ:=Γ) (Hs0:=Hs1) 0 hi;rw[Int.sub_zero] at w;exact w
  ·cases e1
 |_=>cases e1
end
end L3
namespace L2
open PySem PySem.Spec PyProof.Rows
section
variable{X:Cx}{pins:List (Q9×Obj)}{σ:St}{H:Hp}{s:Q8}{l:Q9}{xs:List V}
def Ht(K:Frag):R2:=λx y H Q=>∃l b xs zs,x=.ref l/\y=.ref b/\fJ K H l xs/\fJ K H b zs/\xs.length+zs.length<=sizeLine/\∀p,H p=none->Q (.ref p) (bW H p (.lst (xs++zs)))
theorem DJ:gd X (binaryOp .Add) (Ht X.K):=λpins s σ H x y v u Q I rx ry ⟨l,b,xs,zs,ex,ey,hH,hB,hz,q⟩=>by
 subst ex ey;cases rx;cases ry;obtain⟨i1,r1,p1,_⟩:=I.list hH;obtain⟨i2,r2,p2,_⟩:=I.list hB;obtain⟨⟨c1,d1,t1,s1⟩,o1,k1,n1,g1⟩:=p1.isList;obtain⟨⟨c2,d2,t2,s2⟩,o2,k2,n2,g2⟩:=p2.isList;simp only at k1 g1 k2 g2;subst k1 g1 k2 g2;have l1:=r1.length;have l2:=r2.length;have ea:i1.toArray++i2.toArray=(i1++i2).toArray:=by simp
 refine concat_meets ⟨_,o1,rfl⟩ ⟨_,o2,rfl⟩ noFill_list_add seq_list_add PySem.F.slot_list_add PySem.F.entry_list_add (PySem.F.args_list_add_2 _ _) (list_addW l b _ _ n1 n2 d1 d2 s1 s2 (by rw[size_toArray,size_toArray,<-l1,<-l2];exact hz)) ⟨o1,o2,?_⟩
 rw[ea];exact⟨.ref _,_,I.lnew (t':=s.toks) (r1.append r2) (by rw[length_append];exact hz),rfl,q _ I.fresh⟩
theorem BM:gd X (binaryOp .Add) (λx y H Q=>∃a b ys,x=.ref a/\y=.ref b/\jS X.K H a []/\jS X.K H b ys/\Q (.ref b) H):=λpins s σ H x y v u Q I rx ry ⟨a,b,ys,ex,ey,ha,hb,q⟩=>by
 subst ex ey;cases rx;cases ry;obtain⟨i1,r1,⟨⟨c1,d1,t1,s1⟩,o1,k1,n1,g1⟩,_⟩:=I.tuple ha;obtain⟨i2,r2,⟨⟨c2,d2,t2,s2⟩,o2,k2,n2,g2⟩,_⟩:=I.tuple hb;cases r1;simp only at k1 g1 k2 g2;subst k1 g1 k2 g2;exact concat_meets ⟨_,o1,rfl⟩ ⟨_,o2,rfl⟩ noFill_tuple_add seq_tuple_add PySem.F.slot_tuple_add PySem.F.entry_tuple_add (PySem.F.args_tuple_add_2 _ _)
  (tuple_addW0 a b _ _ n1 n2 d1 d2 s1 s2 (by rfl)) ⟨o1,o2,⟨.ref b,H,I,rfl,q⟩⟩
theorem oO(ns:List Int):∀k,k<=ns.length->preSum (λi=>(ns[i]?).getD 0) k=(ns.take k).sum
 |0,_=>by simp[preSum]
 |k+1,h=>by
  have hk:k<ns.length:=h;rw[List.take_add_one,getElem?_eq_getElem hk,List.sum_append,<-oO ns k (le_of_lt hk)];simp[preSum,getElem?_eq_getElem hk]
theorem Am(hc:X.calm=true):cJ X (.builtin "sum") (λxs H Q=>∃(p:Q9)(ns:List Int),xs=[.ref p]/\fJ X.K H p (ns.map V.int)/\Q (.int ns.sum) H):=λpins s σ H xs us Q I r ⟨p,ns,ex,hq,q⟩=>by
 subst ex;obtain⟨u,rfl,rx⟩:=fK r;cases rx;obtain⟨its,rv,pl,hz⟩:=I.list hq;have hlt:p<s.heap.objs.size:=by obtain⟨_,e,_⟩:=pl.isList;exact lt_size e
 have hlen:its.length=ns.length:=by rw[<-rv.length,length_map]
 have up:∀b o,s.heap.get? b=some o->(s.heap.push {cls:=.type "list_iterator",data:=.fields #[.ref p,.int 0 0]}).get? b=some o:=λb o e=>get?_push_of_some _ e;refine call_sum_walkG (wpAny_pyIter_list pl.isList ⟨_,_,_,_,_,_,λi=>(ns[i]?).getD 0,rfl,Walks.list (A:=X.A.in1) (I.ok.hd hc) s.heap.objs.size p (ne_of_lt hlt) its.toArray,⟨⟨_,get?_push_size _ rfl,rfl,rfl⟩,pl.isList.push _⟩,λb hb=>?_,λi v hv=>?_,λh' tk t' hk=>?_⟩)
 ·rw[show({s with heap:=s.heap.push {cls:=.type "list_iterator",data:=.fields #[.ref p,.int 0 0]}}:Q8).heap.objs.size=s.heap.objs.size+1 from size_push ..];rcases mem_cons.mp hb with e|e
  ·rw[e];exact Nat.lt_succ_self _
  ·rw[mem_singleton.mp e];exact lt_succ_of_lt hlt
 ·have hv':its[i]?=some v:=by simpa using hv
  have hi:i<ns.length:=by rw[<-hlen];exact(List.getElem?_eq_some_iff.mp hv').1
  obtain⟨u,e,ru⟩:=rv.get (i:=i) (x:=.int ns[i]) (by rw[getElem?_map,getElem?_eq_getElem hi];rfl)
  rw[hv'] at e;cases e;obtain⟨t,e⟩:=ru;exact⟨t,by show v=Value.int ((ns[i]?).getD 0) t;rw[e,getElem?_eq_getElem hi];rfl⟩
 ·have es:preSum (λi=>(ns[i]?).getD 0) its.toArray.size=ns.sum:=by rw[size_toArray,hlen,oO ns _ (le_refl _),take_length]
  refine⟨.int ns.sum,H,I.kept (t':=tk) λb o e=>hk b o (by simpa using ne_of_lt (lt_size e)) (up b o e),⟨t',by rw[es]⟩,q⟩
theorem AA(bs:List Bool):(List.range bs.length).all (λi=>(bs[i]?).getD false)=bs.all id:=by
 rw[Bool.eq_iff_iff,all_eq_true,all_eq_true];constructor
 ·intro h b hb;obtain⟨i,hi,rfl⟩:=List.mem_iff_getElem.mp hb;have:=h i (mem_range.mpr hi);rwa[getElem?_eq_getElem hi] at this
 ·intro h i hi;have hi':=mem_range.mp hi;rw[getElem?_eq_getElem hi'];exact h _ (getElem_mem hi')
theorem xX(I:aD X pins σ H s)(hc:X.calm=true){p:Q9}{bs:List Bool}(hq:fJ X.K H p (bs.map V.bl)){E:Q7->Q8->Prop}{Q:Q7->Q8->Prop}{cmb:List Nat->(Nat->Bool)->Bool}
  (k:∀(h':Vc)(tk:Nat),(∀b o,s.heap.get? b=some o->h'.get? b=some o)->Q (.bool (cmb (List.range bs.length) λi=>(bs[i]?).getD false)) {s with heap:=h',toks:=tk}):
  wpAny (model X.prog X.w) X.A.in1 (pyIter (.ref p)) (λit s₂=>∃I fp wr n P St tr,it=.ref I/\Walks X.prog X.w X.A.in1 I fp wr n P St/\St 0 s₂.heap/\TruthOf X.prog X.w X.A.in1 P tr/\
   ∀h' tk,(∀b o,b∉wr->s₂.heap.get? b=some o->h'.get? b=some o)->Q (.bool (cmb (List.range n) tr)) {s₂ with heap:=h',toks:=tk}) E s:=by
 obtain⟨its,rv,pl,hz⟩:=I.list hq;have hlt:p<s.heap.objs.size:=by obtain⟨_,e,_⟩:=pl.isList;exact lt_size e
 have hlen:its.length=bs.length:=by rw[<-rv.length,length_map]
 refine wpAny_pyIter_list pl.isList ⟨_,_,_,_,_,_,λi=>(bs[i]?).getD false,rfl,Walks.list (A:=X.A.in1) (I.ok.hd hc) s.heap.objs.size p (ne_of_lt hlt) its.toArray,⟨⟨_,get?_push_size _ rfl,rfl,rfl⟩,pl.isList.push _⟩,λi v s' Q' E' hv hQ=>?_,λh' tk hk=>?_⟩
 ·have hv':its[i]?=some v:=by simpa using hv
  have hi:i<bs.length:=by rw[<-hlen];exact(List.getElem?_eq_some_iff.mp hv').1
  obtain⟨u,e,ru⟩:=rv.get (i:=i) (x:=.bl bs[i]) (by rw[getElem?_map,getElem?_eq_getElem hi];rfl)
  rw[hv'] at e;cases e;cases (show v=Value.bool bs[i] from ru);have hQ2:Q' ((bs[i]?).getD false) s':=hQ;rw[getElem?_eq_getElem hi] at hQ2;exact wpAny_pure hQ2
 ·rw[size_toArray,hlen];exact k h' tk λb o e=>hk b o (by simpa using ne_of_lt (lt_size e)) (get?_push_of_some _ e)
theorem Ap(hc:X.calm=true):cJ X (.builtin "all") (λxs H Q=>∃(p:Q9)(bs:List Bool),xs=[.ref p]/\fJ X.K H p (bs.map V.bl)/\Q (.bl (bs.all id)) H):=λpins s σ H xs us Q I r ⟨p,bs,ex,hq,q⟩=>by
 subst ex;obtain⟨u,rfl,rx⟩:=fK r;cases rx;refine call_all_walk (xX (cmb:=λl f=>l.all f) I hc hq λh' tk hk=>?_);exact⟨.bl (bs.all id),H,I.kept (t':=tk) hk,by rw[AA];rfl,q⟩
theorem xB{x:V}{u:Q7}{t:Vg}{T:Vg}{b:Bool}(I:aD X pins σ H s)(rx:RelV x u)(ty:lK X.K H x (.type t)\/(t = "tuple" /\ ∃a xs,x=.ref a/\jS X.K H a xs)\/(t = "list" /\ ∃a xs,x=.ref a/\fJ X.K H a xs))(e:kitOne X.K (.type t) (.type T)=some b){Q:Q7->Q8->Prop}{E:Q7->Q8->Prop}{A:Vf}
  (h:∀tk,Q (.bool b) {s with toks:=tk}):wpAny (model X.prog X.w) A (call (.builtin "isinstance") [u,.type T]) Q E s:=by
 rcases ty with ty|⟨rfl,a,xs,rfl,hq⟩|⟨rfl,a,xs,rfl,hq⟩
 ·exact A4 I rx ty e h
 ·cases (show u=Value.ref a from rx);obtain⟨its,_,⟨o,h1,h2,_⟩,_⟩:=I.tuple hq;exact kia_one PySem.W.kitx_tuple I.kIn ⟨o,h1,h2⟩ e (λz=>nomatch z) h
 ·cases (show u=Value.ref a from rx);obtain⟨its,_,pl,_⟩:=I.list hq;obtain⟨o,h1,h2,_⟩:=pl.isList;exact kia_one kitx_list I.kIn ⟨o,h1,h2⟩ e (λz=>nomatch z) h
theorem wg:cJ X (.builtin "isinstance") (λxs H Q=>∃x t T b,xs=[x,.ty T]/\(lK X.K H x (.type t)\/(t = "tuple" /\ ∃a xs,x=.ref a/\jS X.K H a xs)\/(t = "list" /\ ∃a xs,x=.ref a/\fJ X.K H a xs))/\kitOne X.K (.type t) (.type T)=some b/\Q (.bl b) H):=λpins s σ H xs us Q I r ⟨x,t,T,b,ex,ty,e,q⟩=>by
 subst ex;obtain⟨u,w,rfl,ru,rw'⟩:=AS r;cases (show w=Value.type T from rw');exact xB I ru ty e λtk=>⟨.bl b,H,I.tok tk,rfl,q⟩
end
section
variable{prog:Va}{w:Vb}{A:Vf}{E:Q7->Q8->Prop}{s:Q8}
theorem p5{it t:Q9}{i:Nat}{items:Array Q7}{x:Q7}{Q:Q7->Q8->Prop}(hit:s.heap.IsTupleIter it t i)(ht:s.heap.IsTuple t items)(hx:items[i]?=some x)
  (hQ:∀h',h'.IsTupleIter it t (i+1)->Heap.SameBut it s.heap h'->Q x {s with heap:=h'}):wpAny (model prog w) A (Builtin.SmallTypes.nextOf (.ref it)) Q E s:=by
 obtain⟨o,ho,hc,hd⟩:=id hit;obtain⟨ot,hot,_,nt,hdt⟩:=ht;unfold Builtin.SmallTypes.nextOf;refine wpAny_bind (wpAny_callSpecial?_slot (name:=Str.ofString "__next__") hit.typeIs F.slot_tuple_iterator_next (wpAny_call_entry F.slot_tuple_iterator_next hit.typeIs F.entry_tuple_iterator_next ?_ (F.args_tuple_iterator_next_1 _)));show wpAny _ _ (field (.ref it) 0 >>= _) _ _ s;refine wpAny_bind (wpAny_field ho hd (x:=.ref t) rfl ?_);show wpAny _ _ (if(Value.ref t == Value.none)=true then _ else _) _ _ s;rw[if_neg (show ¬((Value.ref t == Value.none)=true) from Bool.false_ne_true)];show wpAny _ _ (field (.ref it) 1 >>= _) _ _ s;refine wpAny_bind (wpAny_field ho hd (x:=.int i 0) rfl ?_);show wpAny _ _ (seqItems? (.ref t) >>= _) _ _ s;refine wpAny_bind (wpAny_seqItems hot hdt ?_);simp only[toNat_natCast,hx];refine wpAny_bind (wpAny_setField ho hd (by simp) (wpAny_pure ⟨x,rfl,wpAny_pure (hQ _ ⟨_,Heap.get?_update_self _ ho (Obj.isFreed_of_fields (Obj.data_mapFields hd _)),(Obj.cls_mapFields ..).trans hc,?_⟩ (Heap.SameBut.update ..))⟩))
 rw[Obj.data_mapFields hd];simp[rawInt]
theorem qX{it t:Q9}{i:Nat}{items:Array Q7}{Q:Q7->Q8->Prop}(hh:A.handled=none)(hit:s.heap.IsTupleIter it t i)(ht:s.heap.IsTuple t items)(hx:items[i]?=none)
  (hE:∀h' e,Heap.ExtBut it s.heap h'->(∃o,h'.get? e=some o/\o.cls=.type "StopIteration")->E (.ref e) {s with heap:=h'}):wpAny (model prog w) A (Builtin.SmallTypes.nextOf (.ref it)) Q E s:=by
 obtain⟨o,ho,hc,hd⟩:=id hit;obtain⟨ot,hot,_,nt,hdt⟩:=ht;unfold Builtin.SmallTypes.nextOf;refine wpAny_bind (wpAny_callSpecial?_slot (name:=Str.ofString "__next__") hit.typeIs F.slot_tuple_iterator_next (wpAny_call_entry F.slot_tuple_iterator_next hit.typeIs F.entry_tuple_iterator_next ?_ (F.args_tuple_iterator_next_1 _)));show wpAny _ _ (field (.ref it) 0 >>= _) _ _ s;refine wpAny_bind (wpAny_field ho hd (x:=.ref t) rfl ?_);show wpAny _ _ (if(Value.ref t == Value.none)=true then _ else _) _ _ s;rw[if_neg (show ¬((Value.ref t == Value.none)=true) from Bool.false_ne_true)];show wpAny _ _ (field (.ref it) 1 >>= _) _ _ s;refine wpAny_bind (wpAny_field ho hd (x:=.int i 0) rfl ?_);show wpAny _ _ (seqItems? (.ref t) >>= _) _ _ s;refine wpAny_bind (wpAny_seqItems hot hdt ?_);simp only[toNat_natCast,hx];refine wpAny_bind (wpAny_rule (wpAny_bind (wpAny_setField ho hd (by simp) ?_)));show wpAny _ _ (newExc (.type "StopIteration") [] >>= _) _ _ _
 refine wpAny_bind ?_;simp only[newExc,newTuple];refine wpAny_bind (wpAny_newObj_type ?_ (by size_fits))
 refine wpAny_bind (m:=firstArgMember _ _) (wpAny_of_eq (a:=Value.none) (by first|rfl|(simp only[firstArgMember];rfl)) ?_);refine wpAny_newObj_type ?_ (by size_fits);simp only[raiseNew]
 refine wpAny_bind (wpAny_handled ?_);first|rw[show A.in1.handled=none from hh]|rw[hh]
 exact wpAny_bind (wpAny_pure (wpAny_throw (hE _ _ (((Heap.SameBut.update ..).extBut.push _).push _) ⟨_,get?_push_size _ rfl,rfl⟩)))
end
structure Nx(prog:Va)(w:Vb)(A:Vf)(it l:Q9)(st:Nat->Vc->Prop)(val:Nat->Option Q7):Prop where
 item:∀(s:Q8)(k:Nat)(x:Q7)(Q:Q7->Q8->Prop)(E:Q7->Q8->Prop),st k s.heap->val k=some x->(∀h',st (k+1) h'->Heap.SameBut it s.heap h'->Q x {s with heap:=h'})->wpAny (model prog w) A (Builtin.SmallTypes.nextOf (.ref it)) Q E s
 stop:∀(s:Q8)(k:Nat)(Q:Q7->Q8->Prop)(E:Q7->Q8->Prop),st k s.heap->val k=none->
  (∀h' e,Heap.ExtBut it s.heap h'->(∃o,h'.get? e=some o/\o.cls=.type "StopIteration")->E (.ref e) {s with heap:=h'})->wpAny (model prog w) A (Builtin.SmallTypes.nextOf (.ref it)) Q E s
 ext:∀(k:Nat)(h h':Vc),st k h->(∀b,b=it\/b=l->∀o,h.get? b=some o->h'.get? b=some o)->st k h'
 there:∀(k:Nat)(h:Vc),st k h->(∃o,h.get? it=some o/\∀v,o.data≠.cell v)/\∃o,h.get? l=some o
theorem j6{prog:Va}{w:Vb}{A:Vf}(hh:A.handled=none){it l:Q9}(ne:l≠it)(items:Array Q7):Nx prog w A it l (λk h=>h.IsListIter it l k/\h.IsList l items) (λk=>items[k]?) where
 item:=λs k x Q E st e h=>wpAny_nextOf_list_item st.1 st.2 e λh' a b=>h h' ⟨a,st.2.extBut b.extBut ne⟩ b
 stop:=λs k Q E st e h=>wpAny_nextOf_list_end hh st.1 st.2 e h
 ext:=λk h h' st kp=>⟨st.1.at λo e=>kp it (.inl rfl) o e,st.2.at λo e=>kp l (.inr rfl) o e⟩
 there:=λk h st=>by
  obtain⟨⟨o,e,c,d⟩,⟨o2,e2,_⟩⟩:=st;exact⟨⟨o,e,λv z=>by rw[d] at z;cases z⟩,o2,e2⟩
theorem FX{prog:Va}{w:Vb}{A:Vf}(hh:A.handled=none){it l:Q9}(ne:l≠it)(items:Array Q7):Nx prog w A it l (λk h=>h.IsTupleIter it l k/\h.IsTuple l items) (λk=>items[k]?) where
 item:=λs k x Q E st e h=>p5 st.1 st.2 e λh' a b=>h h' ⟨a,st.2.extBut b.extBut ne⟩ b
 stop:=λs k Q E st e h=>qX hh st.1 st.2 e h
 ext:=λk h h' st kp=>⟨st.1.at λo e=>kp it (.inl rfl) o e,st.2.at λo e=>kp l (.inr rfl) o e⟩
 there:=λk h st=>by
  obtain⟨⟨o,e,c,d⟩,⟨o2,e2,_⟩⟩:=st;exact⟨⟨o,e,λv z=>by rw[d] at z;cases z⟩,o2,e2⟩
section
variable{prog:Va}{w:Vb}{A:Vf}{E:Q7->Q8->Prop}{s:Q8}{z TI TO i1 i2 l1 l2:Q9}{k:Nat}{st1 st2:Nat->Vc->Prop}{v1 v2:Nat->Option Q7}{a b:Q7}
theorem zm{x y:Q7}{Q:Q7->Q8->Prop}(N1:Nx prog w A i1 l1 st1 v1)(N2:Nx prog w A i2 l2 st2 v2)(D:ZipApart z TI TO i1 i2 l1 l2)(hz:IsZip s.heap z TI TO .none)(hTI:IsPair s.heap TI (.ref i1) (.ref i2))(hTO:IsPair s.heap TO a b)
  (h1:st1 k s.heap) (h2:st2 k s.heap) (hx:v1 k=some x) (hy:v2 k=some y)
  (hQ:∀h',IsZip h' z TI TO (rawInt s.heap.objs.size)->IsPair h' TO x y->st1 (k+1) h'->st2 (k+1) h'->IsPair h' s.heap.objs.size x y->h'.objs.size=s.heap.objs.size+1->
   (∀c o,c≠z->c≠TO->c≠i1->c≠i2->s.heap.get? c=some o->h'.get? c=some o)->Q (.ref s.heap.objs.size) {s with heap:=h'}):
  wpAny (model prog w) A (Builtin.«zip.__next__» ⟨[.ref z],[]⟩) (λfin s'=>∃v,fin=.done (.ret v)/\Q v s') E s:=by
 show wpAny _ _ (field (.ref z) 2 >>= _) _ _ _;refine wpAny_bind (wpAny_field hz rfl (x:=.bool false) rfl ?_);show wpAny _ _ (field (.ref z) 3 >>= _) _ _ _;refine wpAny_bind (wpAny_field hz rfl (x:=.ref TI) rfl ?_);refine wpAny_bind (wpAny_seqItems hTI rfl ?_);show wpAny _ _ (Builtin.SmallTypes.ownedTupleIsFree (.ref z) >>= _) _ _ _;refine wpAny_bind ?_;unfold Builtin.SmallTypes.ownedTupleIsFree;refine wpAny_bind (wpAny_field hz rfl (x:=.none) rfl (wpAny_pure ?_));simp only[if_true];refine wpAny_bind (wpAny_rule ?_);refine wpAny_bind (wpAny_field hz rfl (x:=.ref TO) rfl ?_);refine wpAny_bind (wpAny_setField_rec hz (by simp) λg1 z1 e1=>?_);replace z1:IsZip g1 z TI TO .ellipsis:=z1
 refine wpAny_bind ?_;simp only[zipIdx_cons,zipIdx_nil,forIn_cons,forIn_nil];have j1:st1 k g1:=N1.ext k _ _ h1 λc hc o q=>by rcases hc with rfl|rfl;exact e1.extBut _ _ D.i1z q;exact e1.extBut _ _ D.l1z q
 refine wpAny_bind (wpAny_bind (wpAny_onRaise ?_));show wpAny _ _ (Builtin.SmallTypes.nextOf (.ref i1) >>= _) _ _ _;refine wpAny_bind (N1.item _ k x _ _ j1 hx λg2 j1' e2=>wpAny_pure ?_);have t2:IsPair g2 TO a b:=e2.extBut _ _ D.TOi1 (e1.extBut _ _ D.TOz hTO);refine wpAny_bind (wpAny_seqItems t2 rfl ?_);refine wpAny_bind (wpAny_updateSeq_pair t2 λg3 t3 e3=>?_);replace t3:IsPair g3 TO x b:=t3;refine wpAny_bind (wpAny_letGo (wpAny_pure ?_));have j2:st2 k g3:=N2.ext k _ _ h2 λc hc o q=>by
  rcases hc with rfl|rfl
  ·exact e3.extBut _ _ D.TOi2.symm (e2.extBut _ _ D.i12.symm (e1.extBut _ _ D.i2z q))
  ·exact e3.extBut _ _ D.l2TO (e2.extBut _ _ D.l2i1 (e1.extBut _ _ D.l2z q))
 refine wpAny_bind (wpAny_bind (wpAny_onRaise ?_));show wpAny _ _ (Builtin.SmallTypes.nextOf (.ref i2) >>= _) _ _ _;refine wpAny_bind (N2.item _ k y _ _ j2 hy λg4 j2' e4=>wpAny_pure ?_);have t4:IsPair g4 TO x b:=e4.extBut _ _ D.TOi2 t3;refine wpAny_bind (wpAny_seqItems t4 rfl ?_);refine wpAny_bind (wpAny_updateSeq_pair t4 λg5 t5 e5=>?_);replace t5:IsPair g5 TO x y:=t5;refine wpAny_bind (wpAny_letGo (wpAny_pure (wpAny_pure ?_)));refine wpAny_bind (wpAny_seqItems t5 rfl ?_);refine wpAny_bind (wpAny_newTuple ?_);have sz:g5.objs.size=s.heap.objs.size:=by rw[e5.1,e4.1,e3.1,e2.1,e1.1]
 have z5:IsZip g5 z TI TO .ellipsis:=e5.extBut _ _ D.TOz.symm (e4.extBut _ _ D.i2z.symm (e3.extBut _ _ D.TOz.symm (e2.extBut _ _ D.i1z.symm z1)));have k5:∀c o,c≠z->c≠TO->c≠i1->c≠i2->s.heap.get? c=some o->g5.get? c=some o:=λc o c1 c2 c3 c4 q=>e5.extBut _ _ c2 (e4.extBut _ _ c4 (e3.extBut _ _ c2 (e2.extBut _ _ c3 (e1.extBut _ _ c1 q))));have j15:st1 (k+1) g5:=N1.ext _ _ _ j1' λc hc o q=>by
  rcases hc with rfl|rfl
  ·exact e5.extBut _ _ D.TOi1.symm (e4.extBut _ _ D.i12 (e3.extBut _ _ D.TOi1.symm q))
  ·exact e5.extBut _ _ D.l1TO (e4.extBut _ _ D.l1i2 (e3.extBut _ _ D.l1TO q))
 have j25:st2 (k+1) g5:=N2.ext _ _ _ j2' λc hc o q=>by
  rcases hc with rfl|rfl
  ·exact e5.extBut _ _ D.TOi2.symm q
  ·exact e5.extBut _ _ D.l2TO q
 have zlt:z<g5.objs.size:=lt_size z5;show wpAny _ _ (Builtin.SmallTypes.ownedTupleHandOut (.ref z) (.ref g5.objs.size) >>= _) _ _ _;refine wpAny_bind ?_;unfold Builtin.SmallTypes.ownedTupleHandOut;have z6:IsZip (g5.push {cls:=.type "tuple",data:=.seq #[x,y]}) z TI TO .ellipsis:=get?_push_of_some _ z5;refine wpAny_bind (wpAny_setField_rec z6 (by simp) λg7 z7 e7=>?_);replace z7:IsZip g7 z TI TO (rawInt g5.objs.size):=z7
 refine wpAny_setField_rec z7 (by simp) λg8 z8 e8=>?_;replace z8:IsZip g8 z TI TO (rawInt g5.objs.size):=z8
 have up:∀c o,c≠z->g5.get? c=some o->g8.get? c=some o:=λc o c1 q=>e8.extBut _ _ c1 (e7.extBut _ _ c1 (get?_push_of_some _ q));have t8:IsPair g8 g5.objs.size x y:=e8.extBut _ _ (ne_of_gt zlt) (e7.extBut _ _ (ne_of_gt zlt) (get?_push_size _ rfl));have s8:g8.objs.size=g5.objs.size+1:=by rw[e8.1,e7.1,size_push]
 rw[sz] at z8 t8 s8;refine wpAny_pure ⟨_,rfl,?_⟩;show Q (.ref g5.objs.size) _;rw[sz];refine hQ g8 z8 (up _ _ D.TOz t5) (N1.ext _ _ _ j15 λc hc o q=>?_) (N2.ext _ _ _ j25 λc hc o q=>?_) t8 s8 λc o c1 c2 c3 c4 q=>up c o c1 (k5 c o c1 c2 c3 c4 q)
 ·rcases hc with rfl|rfl;exact up _ o D.i1z q;exact up _ o D.l1z q
 ·rcases hc with rfl|rfl;exact up _ o D.i2z q;exact up _ o D.l2z q
theorem AI{Q:Fin->Q8->Prop}(N1:Nx prog w A i1 l1 st1 v1)(N2:Nx prog w A i2 l2 st2 v2)(D:ZipApart z TI TO i1 i2 l1 l2)(hz:IsZip s.heap z TI TO .none)(hTI:IsPair s.heap TI (.ref i1) (.ref i2))(hTO:IsPair s.heap TO a b)
  (h1:st1 k s.heap) (h2:st2 k s.heap) (hend:v1 k=none\/v2 k=none)
  (hE:∀h' e,(∀c o,c≠z->c≠TO->c≠i1->c≠i2->s.heap.get? c=some o->h'.get? c=some o)->(∃o,h'.get? e=some o/\o.cls=.type "StopIteration")->E (.ref e) {s with heap:=h'}):
  wpAny (model prog w) A (Builtin.«zip.__next__» ⟨[.ref z],[]⟩) Q E s:=by
 show wpAny _ _ (field (.ref z) 2 >>= _) _ _ _;refine wpAny_bind (wpAny_field hz rfl (x:=.bool false) rfl ?_);show wpAny _ _ (field (.ref z) 3 >>= _) _ _ _;refine wpAny_bind (wpAny_field hz rfl (x:=.ref TI) rfl ?_);refine wpAny_bind (wpAny_seqItems hTI rfl ?_);show wpAny _ _ (Builtin.SmallTypes.ownedTupleIsFree (.ref z) >>= _) _ _ _;refine wpAny_bind ?_;unfold Builtin.SmallTypes.ownedTupleIsFree;refine wpAny_bind (wpAny_field hz rfl (x:=.none) rfl (wpAny_pure ?_));simp only[if_true];refine wpAny_bind (wpAny_rule ?_);refine wpAny_bind (wpAny_field hz rfl (x:=.ref TO) rfl ?_);refine wpAny_bind (wpAny_setField_rec hz (by simp) λg1 z1 e1=>?_);replace z1:IsZip g1 z TI TO .ellipsis:=z1
 refine wpAny_bind ?_;simp only[zipIdx_cons,zipIdx_nil,forIn_cons,forIn_nil];have j1:st1 k g1:=N1.ext k _ _ h1 λc hc o q=>by rcases hc with rfl|rfl;exact e1.extBut _ _ D.i1z q;exact e1.extBut _ _ D.l1z q
 refine wpAny_bind (wpAny_bind (wpAny_onRaise ?_));show wpAny _ _ (Builtin.SmallTypes.nextOf (.ref i1) >>= _) _ _ _;cases hx:v1 k with
 |none=>
  refine wpAny_bind (N1.stop _ k _ _ j1 hx λg2 e e2 he=>?_);obtain⟨oe,hoe,hce⟩:=he;have z2:IsZip g2 z TI TO .ellipsis:=e2 _ _ D.i1z.symm z1;have hez:e≠z:=λx=>by subst x;rw[z2] at hoe;cases hoe;simp at hce
  exact wpAny_setField_rec z2 (by simp) λg3 _ e3=>hE g3 e (λc o c1 _ c3 _ x=>e3.extBut _ _ c1 (e2 _ _ c3 (e1.extBut _ _ c1 x))) ⟨oe,e3.extBut _ _ hez hoe,hce⟩
 |some x=>
  have hy:v2 k=none:=by rcases hend with h|h;rw[hx] at h;cases h;exact h
  refine wpAny_bind (N1.item _ k x _ _ j1 hx λg2 j1' e2=>wpAny_pure ?_);have t2:IsPair g2 TO a b:=e2.extBut _ _ D.TOi1 (e1.extBut _ _ D.TOz hTO);refine wpAny_bind (wpAny_seqItems t2 rfl ?_);refine wpAny_bind (wpAny_updateSeq_pair t2 λg3 t3 e3=>?_);refine wpAny_bind (wpAny_letGo (wpAny_pure ?_));have j2:st2 k g3:=N2.ext k _ _ h2 λc hc o q=>by
   rcases hc with rfl|rfl
   ·exact e3.extBut _ _ D.TOi2.symm (e2.extBut _ _ D.i12.symm (e1.extBut _ _ D.i2z q))
   ·exact e3.extBut _ _ D.l2TO (e2.extBut _ _ D.l2i1 (e1.extBut _ _ D.l2z q))
  refine wpAny_bind (wpAny_bind (wpAny_onRaise ?_));show wpAny _ _ (Builtin.SmallTypes.nextOf (.ref i2) >>= _) _ _ _;refine wpAny_bind (N2.stop _ k _ _ j2 hy λg4 e e4 he=>?_);obtain⟨oe,hoe,hce⟩:=he;have z4:IsZip g4 z TI TO .ellipsis:=e4 _ _ D.i2z.symm (e3.extBut _ _ D.TOz.symm (e2.extBut _ _ D.i1z.symm z1));have hez:e≠z:=λx=>by subst x;rw[z4] at hoe;cases hoe;simp at hce
  exact wpAny_setField_rec z4 (by simp) λg5 _ e5=>hE g5 e (λc o c1 c2 c3 c4 x=>e5.extBut _ _ c1 (e4 _ _ c4 (e3.extBut _ _ c2 (e2.extBut _ _ c3 (e1.extBut _ _ c1 x))))) ⟨oe,e5.extBut _ _ hez hoe,hce⟩
end
section
variable{X:Cx}{pins:List (Q9×Obj)}{σ:St}{H:Hp}{s:Q8}{h':Vc}
theorem aD.turnedN{t':Nat}{ch:List Q9}(I:aD X pins σ H s)(k:∀b o,b∉ch->s.heap.get? b=some o->h'.get? b=some o)(hf:∀b∈ch,FpOk X pins H b):aD X pins σ H {s with heap:=h',toks:=t'}:=by
 have nch:∀b u,H b=some u->b∉ch:=λb u e z=>by rw[(hf b z).1] at e;cases e
 refine I.step (g':=s.gens) (d':=s.drawn) (ch:=ch) (λb hb=>⟨(hf b hb).2.2.2.1,(hf b hb).2.1,(hf b hb).2.2.2.2.1,(hf b hb).2.2.2.2.2⟩) (λb o _ _ hc e _=>k b o hc e) (λb o _ _ hc e _=>⟨o.slots,k b o hc e⟩) (λ_ _ _ _ n=>n)
  (λb o hc e=>⟨o,k b o hc e⟩) (λ_ _ e=>e) (λ_ _ _ e=>e) (λb ps e=>⟨#[],by rw[e];simp⟩) (λm hm=>?_) (λb u e=>?_) I.bare
 ·obtain⟨o,es,ep,ho,r⟩:=hm;exact⟨o,es,ep,k _ o (λz=>(hf _ z).2.1 rfl) ho,r⟩
 ·refine(I.hok b u e).stay (λc v hc q=>k c v ?_ q) (λ_ q=>q) (λ_ _ q=>q) λ_ _ _ q=>q;rcases hc with z|z
  ·rw[z];exact nch b u e
  ·exact nch c _ z
theorem aD.track{a:Q9}{o:HO}(I:aD X pins σ H s)(hf:FpOk X pins H a)(new:bM X.prog X.w (bW H a o) s.heap a o):aD X pins σ (bW H a o) s:=by
 have ne:∀b u,H b=some u->b≠a:=λb u e z=>by rw[z,hf.1] at e;cases e
 have z:=I.step (g':=s.gens) (d':=s.drawn) (t':=s.toks) (h':=s.heap) (H':=bW H a o) (ch:=[a]) (λb hb=>by rw[mem_singleton.mp hb];exact⟨hf.2.2.2.1,hf.2.1,hf.2.2.2.2.1,hf.2.2.2.2.2⟩) (λb o _ _ _ e _=>e) (λb o _ _ _ e _=>⟨o.slots,e⟩)
  (λb u hc _ n=>by rw[ak (λz=>hc (by simp[z]))];exact n) (λb o _ e=>⟨o,e⟩) (λb xs e=>by rw[ak (ne b _ e)];exact e) (λb u v e=>by rw[ak (ne b _ e)];exact e) (λb ps e=>⟨#[],by rw[ak (ne b _ e),e];simp⟩) (λm hm=>hm) (λb u e=>?_) I.bare
 ·exact z
 ·by_cases hb:b=a
  ·subst hb;rw[aF] at e;cases e;exact new
  ·rw[ak hb] at e;exact(I.hok b u e).stay (λ_ _ _ q=>q) (λc q=>by rw[ak (ne c _ q)];exact q) (λc xs q=>by rw[ak (ne c _ q)];exact q) λc ob u q=>by rw[ak (ne c _ q)];exact q
end
def nr(K:Frag)(H:Hp):Bool->Q9->List V->Prop
 |true,a,xs=>fJ K H a xs
 |false,a,xs=>jS K H a xs
def tx(h:Vc):Bool->Q9->Q9->Nat->Prop
 |true,it,l,k=>h.IsListIter it l k
 |false,it,l,k=>h.IsTupleIter it l k
def GS(h:Vc):Bool->Q9->Array Q7->Prop
 |true,l,its=>h.IsList l its
 |false,l,its=>h.IsTuple l its
theorem BN{prog:Va}{w:Vb}{A:Vf}(hh:A.handled=none){it l:Q9}(ne:l≠it)(items:Array Q7)(b:Bool):Nx prog w A it l (λk h=>tx h b it l k/\GS h b l items) (λk=>items[k]?):=by
 cases b with
 |true=>exact j6 hh ne items
 |false=>exact FX hh ne items
theorem aD.seqX{X:Cx}{pins:List (Q9×Obj)}{σ:St}{H:Hp}{s:Q8}{b:Bool}{a:Q9}{xs:List V}(I:aD X pins σ H s)(h:nr X.K H b a xs):∃its:List Q7,Vals xs its/\GS s.heap b a its.toArray/\a<s.heap.objs.size:=by
 cases b with
 |true=>
  obtain⟨its,r,p,_⟩:=I.list h;refine⟨its,r,p.isList,?_⟩;obtain⟨_,e,_⟩:=p.isList;exact lt_size e
 |false=>
  obtain⟨its,r,p,_⟩:=I.tuple h;refine⟨its,r,p,?_⟩;obtain⟨_,e,_⟩:=p;exact lt_size e
theorem aD.seqX_inj{X:Cx}{pins:List (Q9×Obj)}{σ:St}{H:Hp}{s:Q8}{b:Bool}{a:Q9}{xs ys:List V}(I:aD X pins σ H s)(h:nr X.K H b a xs)(h':nr X.K H b a ys):xs=ys:=by
 cases b with
 |true=>exact I.list_inj h h'
 |false=>exact I.tuple_inj h h'
def IG(K:Frag)(b1:Bool)(l1:Q9)(b2:Bool)(l2:Q9):It:=
 ⟨λi H=>∃xs ys x y,nr K H b1 l1 xs/\nr K H b2 l2 ys/\xs[i]?=some x/\ys[i]?=some y,
  λi H x H'=>∃p u v,x=.ref p/\H p=none/\H'=bW H p (.tup [u,v])/\(∀xs,nr K H b1 l1 xs->xs[i]?=some u)/\∀ys,nr K H b2 l2 ys->ys[i]?=some v,
  λi H=>∃xs ys,nr K H b1 l1 xs/\nr K H b2 l2 ys/\(xs.length<=i\/ys.length<=i)⟩
theorem ui{P:Va}{w:Vb}{K:Frag}{elts:List Vd}{kt:Nat}{tp:Pos}(b1 b2:Bool)(z TI TO i1 i2 l1 l2:Q9)(D:ZipApart z TI TO i1 i2 l1 l2):
  u7 P w K (.Tuple elts kt tp) (IG K b1 l1 b2 l2) [z,TI,TO,i1,i2] z (λi h=>IsZip h z TI TO .none/\IsPair h TI (.ref i1) (.ref i2)/\(∃a b,IsPair h TO a b)/\tx h b1 i1 l1 i/\tx h b2 i2 l2 i) where
 mem:=by simp
 obj:=λi h ⟨hz,hTI,⟨a,b,hTO⟩,j1,j2⟩ c hc=>by
  have rec1:∀(b:Bool)(it l:Q9),tx h b it l i->∃o,h.get? it=some o/\∀v,o.data≠.cell v:=λb it l j=>by
   cases b with
   |_=>obtain⟨o,e,_,d⟩:=j;exact⟨o,e,λv z=>by rw[d] at z;cases z⟩
  rcases mem_cons.mp hc with rfl|hc
  ·exact⟨_,hz,λv z=>nomatch z⟩
  rcases mem_cons.mp hc with rfl|hc
  ·exact⟨_,hTI,λv z=>nomatch z⟩
  rcases mem_cons.mp hc with rfl|hc
  ·exact⟨_,hTO,λv z=>nomatch z⟩
  rcases mem_cons.mp hc with rfl|hc
  ·exact rec1 b1 _ _ j1
  ·rw[mem_singleton.mp hc];exact rec1 b2 _ _ j2
 keep:=λi h h' ⟨hz,hTI,⟨a,b,hTO⟩,j1,j2⟩ k=>by
  have rec1:∀(b:Bool)(it l:Q9),it∈[z,TI,TO,i1,i2]->tx h b it l i->tx h' b it l i:=λb it l m j=>by
   cases b with
   |true=>exact Heap.IsListIter.at j λo e=>k it m o e
   |false=>exact Heap.IsTupleIter.at j λo e=>k it m o e
  exact⟨k z (by simp) _ hz,k TI (by simp) _ hTI,⟨a,b,k TO (by simp) _ hTO⟩,rec1 b1 _ _ (by simp) j1,rec1 b2 _ _ (by simp) j2⟩
 item:=by
  intro X hP hw hK hc i pins s σ H E I hf ⟨hz,hTI,⟨a,b,hTO⟩,j1,j2⟩ ⟨xs,ys,x,y,q1,q2,hx,hy⟩;subst hP hw hK;obtain⟨t1,r1,p1,_⟩:=I.seqX q1;obtain⟨t2,r2,p2,_⟩:=I.seqX q2;obtain⟨u1,e1,ru1⟩:=r1.get hx;obtain⟨u2,e2,ru2⟩:=r2.get hy;have hT:s.TypeIs (.ref z) "zip" := ⟨_,hz,rfl⟩;have N1:=BN (prog:=X.prog) (w:=X.w) (A:=X.A.in1) (I.ok.hd hc) D.l1i1 t1.toArray b1;have N2:=BN (prog:=X.prog) (w:=X.w) (A:=X.A.in1) (I.ok.hd hc) D.l2i2 t2.toArray b2;unfold pyNext;refine wpAny_bind (wpAny_attempt (wpAny_callSpecial?_slot (name:=Str.ofString "__next__") hT F.slot_zip_next (wpAny_call_entry F.slot_zip_next hT F.entry_zip_next
   (zm N1 N2 D hz hTI hTO ⟨j1,p1⟩ ⟨j2,p2⟩ (by simpa using e1) (by simpa using e2) λg zg tg s1 s2 pg sz kg=>wpAny_pure ⟨_,rfl,?_⟩) (F.args_zip_next_1 _))))
  refine wpAny_letOwnedTupleGo_zip zg λg2 zg2 sb=>?_;have keepg:∀c o,c∉[z,TO,i1,i2]->s.heap.get? c=some o->g2.get? c=some o:=λc o hc e=>by
   have c1:c≠z/\c≠TO/\c≠i1/\c≠i2:=by simpa using hc
   exact sb.extBut _ _ c1.1 (kg c o c1.1 c1.2.1 c1.2.2.1 c1.2.2.2 e)
  have I1:aD X pins σ H {s with heap:=g2}:=I.turnedN (t':=s.toks) keepg λc hc=>hf c (by
   have:c=z\/c=TO\/c=i1\/c=i2:=by simpa using hc
   rcases this with rfl|rfl|rfl|rfl <;> simp)
  have zlt:z<s.heap.objs.size:=lt_size hz;have pT:IsPair g2 s.heap.objs.size u1 u2:=sb.extBut _ _ (ne_of_gt zlt) pg;have fT:FpOk X pins H s.heap.objs.size:=I.fpOk (le_refl _) I.fresh;have I2:aD X pins σ (bW H s.heap.objs.size (.tup [x,y])) {s with heap:=g2}:=I1.track fT ⟨by show 2<=sizeLine;decide,[u1,u2],.cons ru1 (.cons ru2 .nil),⟨_,pT,rfl,_,rfl⟩⟩
  have mv:∀(b:Bool)(it l:Q9),it≠z->tx g b it l (i+1)->tx g2 b it l (i+1):=λb it l ne j=>by
   cases b with
   |true=>exact Heap.IsListIter.at j λo e=>sb.extBut _ _ ne e
   |false=>exact Heap.IsTupleIter.at j λo e=>sb.extBut _ _ ne e
  refine⟨.ref s.heap.objs.size,_,I2,rfl,⟨_,x,y,rfl,I.fresh,rfl,λxs' q=>by rw[I.seqX_inj q q1];exact hx,λys' q=>by rw[I.seqX_inj q q2];exact hy⟩,
   ⟨zg2,sb.extBut _ _ D.TIz (kg _ _ D.TIz D.TITO D.TIi1 D.TIi2 hTI),⟨_,_,sb.extBut _ _ D.TOz tg⟩,mv b1 _ _ D.i1z s1.1,mv b2 _ _ D.i2z s2.1⟩,λc hc=>?_⟩
  rw[ak]
  ·exact(hf c hc).1
  ·intro e;have hlt:∀c∈[z,TI,TO,i1,i2],c<s.heap.objs.size:=λc hc=>by
    have r1:∀(b:Bool)(it l:Q9),tx s.heap b it l i->it<s.heap.objs.size:=λb it l j=>by
     cases b with
     |_=>obtain⟨o,e,_⟩:=j;exact lt_size e
    have:c=z\/c=TI\/c=TO\/c=i1\/c=i2:=by simpa using hc
    rcases this with rfl|rfl|rfl|rfl|rfl
    ·exact zlt
    ·exact lt_size hTI
    ·exact lt_size hTO
    ·exact r1 b1 _ _ j1
    ·exact r1 b2 _ _ j2
   have:=hlt c hc;rw[e] at this;exact lt_irrefl _ this
 done:=by
  intro X hP hw hK hc i pins s σ H E I hf ⟨hz,hTI,⟨a,b,hTO⟩,j1,j2⟩ ⟨xs,ys,q1,q2,hl⟩;subst hP hw hK;obtain⟨t1,r1,p1,_⟩:=I.seqX q1;obtain⟨t2,r2,p2,_⟩:=I.seqX q2;have hT:s.TypeIs (.ref z) "zip" := ⟨_,hz,rfl⟩;have N1:=BN (prog:=X.prog) (w:=X.w) (A:=X.A.in1) (I.ok.hd hc) D.l1i1 t1.toArray b1;have N2:=BN (prog:=X.prog) (w:=X.w) (A:=X.A.in1) (I.ok.hd hc) D.l2i2 t2.toArray b2;have le1:=r1.length;have le2:=r2.length;have hend:(t1.toArray)[i]?=none\/(t2.toArray)[i]?=none:=by
   rcases hl with h|h
   ·exact .inl (by simp;omega)
   ·exact .inr (by simp;omega)
  unfold pyNext;refine wpAny_bind (wpAny_attempt (wpAny_callSpecial?_slot (name:=Str.ofString "__next__") hT F.slot_zip_next (wpAny_call_entry F.slot_zip_next hT F.entry_zip_next (AI N1 N2 D hz hTI hTO ⟨j1,p1⟩ ⟨j2,p2⟩ hend λg e kg ⟨o,ho,hc⟩=>?_) (F.args_zip_next_1 _))));refine wpAny_bind (wpAny_isInstance (T := "StopIteration") (b:=true) ⟨o,ho,hc⟩ isSubtype_stop (wpAny_pure ⟨rfl,I.turnedN (ch:=[z,TO,i1,i2]) (t':=s.toks) (λc o hc e=>?_) λc hc=>hf c ?_⟩))
  ·have c1:c≠z/\c≠TO/\c≠i1/\c≠i2:=by simpa using hc
   exact kg c o c1.1 c1.2.1 c1.2.2.1 c1.2.2.2 e
  ·have:c=z\/c=TO\/c=i1\/c=i2:=by simpa using hc
   rcases this with rfl|rfl|rfl|rfl <;> simp
 self:=λA i s Q E st h=>wpAny_pyIter_zip st.1 h
abbrev EE(h:Vc)(l1:Q9):Vc:=h.push {cls:=.type "tuple_iterator",data:=.fields #[.ref l1,.int 0 0]}
abbrev Ir(h:Vc)(l1 l2:Q9):Vc:=(EE h l1).push {cls:=.type "tuple_iterator",data:=.fields #[.ref l2,.int 0 0]}
abbrev Iq(h:Vc)(l1 l2:Q9):Vc:=(Ir h l1 l2).push {cls:=.type "tuple",data:=.seq #[.ref h.objs.size,.ref (EE h l1).objs.size]}
abbrev Ip(h:Vc)(l1 l2:Q9):Vc:=(Iq h l1 l2).push {cls:=.type "tuple",data:=.seq #[.none,.none]}
abbrev GP(h:Vc)(l1 l2:Q9):Vc:=(Ip h l1 l2).push {cls:=.type "zip",data:=.fields #[.none,.bool false,.bool false,.ref (Ir h l1 l2).objs.size,.ref (Iq h l1 l2).objs.size]}
theorem wF{h:Vc}{a:Q9}{its:Array Q7}(x:h.IsTuple a its)(o:Obj):(h.push o).IsTuple a its:=Heap.IsTuple.at x λ_ e=>get?_push_of_some _ e
theorem qu(l1 l2:Q9)(xs ys:Array Q7):
  Meets (Builtin.«zip.__new__» ⟨[.type "zip",.ref l1,.ref l2],[]⟩) (λ_ R s=>s.heap.IsTuple l1 xs/\s.heap.IsTuple l2 ys/\R (.ok (.ret (.ref (Ip s.heap l1 l2).objs.size))) {s with heap:=GP s.heap l1 l2}):=
 .of_wp λprog w A R s h=>by
  obtain⟨hp,g,d,tk,os⟩:=s;obtain⟨hl1,hl2,h⟩:=h;have hsub:=sub_zip;have q1:Heap.IsTuple (Shared.heap ⟨hp,g,d,tk,os⟩) l1 xs:=hl1;have q2:Heap.IsTuple (Shared.heap ⟨hp.push {cls:=.type "tuple_iterator",data:=.fields #[.ref l1,.int 0 0]},g,d,tk,os⟩) l2 ys:=wF hl2 _
  wp_walk using wpAny_pyIter_tuple q1,wpAny_pyIter_tuple q2
  exact⟨_,rfl,h⟩
section
variable{prog:Va}{w:Vb}{A:Vf}{E:Q7->Q8->Prop}{s:Q8}
theorem Aj{b:Bool}{l1 l2:Q9}{xs ys:Array Q7}{Q:Q7->Q8->Prop}(h1:GS s.heap b l1 xs)(h2:GS s.heap b l2 ys)
  (h:∀h',IsZip h' (s.heap.objs.size+4) (s.heap.objs.size+2) (s.heap.objs.size+3) .none->IsPair h' (s.heap.objs.size+2) (.ref s.heap.objs.size) (.ref (s.heap.objs.size+1))->IsPair h' (s.heap.objs.size+3) .none .none->
   tx h' b s.heap.objs.size l1 0->tx h' b (s.heap.objs.size+1) l2 0->(∀c o,s.heap.get? c=some o->h'.get? c=some o)->Q (.ref (s.heap.objs.size+4)) {s with heap:=h'}):
  wpAny (model prog w) A (call (.type "zip") [.ref l1,.ref l2]) Q E s:=by
 cases b with
 |true=>exact call_zip_2 h1 h2 λh' a1 a2 a3 a4 a5 _ a7=>h h' a1 a2 a3 a4 a5 a7
 |false=>
  refine callType_new F.called_zip (by decide) (F.typeCall_zip_2 _ _) (F.newCall_zip_2 _ _) (λobj=>F.args_object_init_3 obj _ _) F.entry_zip_new (qu l1 l2 xs ys) ⟨h1,h2,?_⟩
  have n1:(EE s.heap l1).objs.size=s.heap.objs.size+1:=size_push ..;have n2:(Ir s.heap l1 l2).objs.size=s.heap.objs.size+2:=by rw[size_push,n1]
  have n3:(Iq s.heap l1 l2).objs.size=s.heap.objs.size+3:=by rw[size_push,n2]
  have n4:(Ip s.heap l1 l2).objs.size=s.heap.objs.size+4:=by rw[size_push,n3]
  have p (o:Obj) {h:Vc} {c:Q9} {u:Obj} (e:h.get? c=some u):(h.push o).get? c=some u:=get?_push_of_some _ e;have g5:(GP s.heap l1 l2).get? (Ip s.heap l1 l2).objs.size=some _:=get?_push_size _ rfl;have g4:(GP s.heap l1 l2).get? (Iq s.heap l1 l2).objs.size=some _:=p _ (get?_push_size _ rfl);have g3:(GP s.heap l1 l2).get? (Ir s.heap l1 l2).objs.size=some _:=p _ (p _ (get?_push_size _ rfl));have g2:(GP s.heap l1 l2).get? (EE s.heap l1).objs.size=some _:=p _ (p _ (p _ (get?_push_size _ rfl)));have g1:(GP s.heap l1 l2).get? s.heap.objs.size=some _:=p _ (p _ (p _ (p _ (get?_push_size _ rfl))));show _/\_;rw[n2,n3,n4] at g5;rw[n1,n2] at g3;rw[n3] at g4;rw[n1] at g2;rw[n4];exact⟨⟨_,g5,rfl⟩,h _ g5 g3 g4 ⟨_,g1,rfl,rfl⟩ ⟨_,g2,rfl,rfl⟩ λc o x=>p _ (p _ (p _ (p _ (p _ x))))⟩
end
section
variable{X:Cx}
def HZ(K:Frag)(ta:TA):TI:=λσ H R=>ta σ H λvs H1=>∃b l1 l2,vs=[.ref l1,.ref l2]/\(∃xs,nr K H1 b l1 xs)/\(∃ys,nr K H1 b l2 ys)/\R (IG K b l1 b l2) H1
theorem Fv{a b:Vd}{ta:TA}{p pos:Pos}{elts:List Vd}{kt:Nat}{tp:Pos}(hg:Gl X "zip")(hm:X.mg "zip" = none)(ha:PA X [a,b] ta)(hs:starEach [a,b] X.env=[(false,eval a X.env),(false,eval b X.env)]:=by rfl)(hs2:starEach [b] X.env=[(false,eval b X.env)]:=by rfl):
  PI X (.Tuple elts kt tp) (.Call (.Name "zip" p) [a,b] [] pos) (HZ X.K ta):=by
 intro pins s σ H R I h;refine Call_ (jH I hg hm boot_zip (PyProof.Rows.callWith_type1 (cA (ha pos pins s σ H _ I h) λus s1 ⟨vs,H1,I1,r1,b,l1,l2,e,⟨xs,q1⟩,⟨ys,q2⟩,q⟩=>?_) (by rw[hs,hs2]) (by rw[hs2];rfl)))
 subst e;obtain⟨u,w,rfl,r1,r2⟩:=AS r1;cases r1;cases r2;obtain⟨t1,_,p1,lt1⟩:=I1.seqX q1;obtain⟨t2,_,p2,lt2⟩:=I1.seqX q2;refine Aj p1 p2 λh' z1 z2 z3 j1 j2 kp=>wpAny_pyIter_zip z1 ?_;have D:ZipApart (s1.heap.objs.size+4) (s1.heap.objs.size+2) (s1.heap.objs.size+3) s1.heap.objs.size (s1.heap.objs.size+1) l1 l2:=zipApart_new lt1 lt2;refine⟨_,_,_,_,H1,rfl,I1.kept (t':=s1.toks) kp,ui b b _ _ _ _ _ l1 l2 D,⟨z1,z2,⟨_,_,z3⟩,j1,j2⟩,λc hc=>?_,q⟩;have hle:s1.heap.objs.size<=c:=by
  have:c=s1.heap.objs.size+4\/c=s1.heap.objs.size+2\/c=s1.heap.objs.size+3\/c=s1.heap.objs.size\/c=s1.heap.objs.size+1:=by simpa using hc
  rcases this with rfl|rfl|rfl|rfl|rfl
  ·exact le_add_right _ _
  ·exact le_add_right _ _
  ·exact le_add_right _ _
  ·exact le_refl _
  ·exact le_add_right _ _
 exact I1.fpOk hle (I1.hok.fresh hle)
end
end L2
namespace L3
open PySem PySem.Spec PyProof.Rows L2
section
variable{X:Cx}{Γ:Ct}{W:XW}
theorem cV{Hs H:Hp}{Q:VK}{d:D}(sm:aj Hs H)(q:RQ Γ W Hs H (.ok (.sh d)) Q){v:V}(rp:bI Γ Hs d v):Q v H:=q v Hs H (.refl sm) rp
theorem sG{Hs H:Hp}{Q:VK}{ds:List D}{xs:List V}(sm:aj Hs H)(q:RQ Γ W Hs H (.ok (.sh (.tup ds))) Q)(rl:RepL Γ Hs ds xs){p:Q9}(hp:H p=none):Q (.ref p) (bW H p (.tup xs)):=
 q _ (bW Hs p (.tup xs)) _ (.new sm hp) (cW.of (aS.mpr ⟨p,xs,rfl,.of aF,rl.mono (bJ (sm.free hp))⟩))
theorem o9{Hs H:Hp}{Q:VK}{ds:List D}{xs:List V}(sm:aj Hs H)(q:RQ Γ W Hs H (.ok (.own (.lst ds))) Q)(rl:RepL Γ Hs ds xs){p:Q9}(hp:H p=none):Q (.ref p) (bW H p (.lst xs)):=
 q _ Hs _ (.newOwn sm hp) ⟨p,_,rfl,hp,sm.free hp,aF,xs,rfl,rl⟩
theorem jF{n:Nat}(h:n<=lim):n<=sizeLine:=le_trans h (by decide)
theorem bL{α:Type}{c:Prop}[Decidable c]{a r:α}(h:(if c then some a else none)=some r):c/\a=r:=by
 by_cases z:c
 ·rw[if_pos z] at h;exact⟨z,Option.some.inj h⟩
 ·rw[if_neg z] at h;cases h
theorem av(hK:X.K=Γ.K):gd X (binaryOp .Add) (rD Γ W dAdd):=λpins s σ H x y v u Q I rx ry ⟨Hs,d1,d2,r,sm,r1,r2,e,q⟩=>by
 cases d1 with
 |int i=>
  cases d2 with
  |int j=>cases e;exact FQ pins s σ H x y v u Q I rx ry ⟨i,j,ah.mp r1,ah.mp r2,cV sm q (ah.mpr rfl)⟩
  |non=>cases e
  |bl _=>cases e
  |str _=>cases e
  |tup _=>cases e
  |lst _=>cases e
  |fn _ _=>cases e
  |obj _ _ _=>cases e
 |str i=>
  cases d2 with
  |str j=>
   obtain⟨hl,rfl⟩:=bL (c:=i.length+j.length<=lim) e;exact x8 pins s σ H x y v u Q I rx ry ⟨i,j,ar.mp r1,ar.mp r2,jF hl,cV sm q (ar.mpr rfl)⟩
  |non=>cases e
  |bl _=>cases e
  |int _=>cases e
  |tup _=>cases e
  |lst _=>cases e
  |fn _ _=>cases e
  |obj _ _ _=>cases e
 |tup ds=>
  cases d2 with
  |tup es=>
   obtain⟨hl,rfl⟩:=bL (c:=ds.length+es.length<=lim) e;obtain⟨a,xs,rfl,qa,la⟩:=aS.mp r1;obtain⟨b,ys,rfl,qb,lb⟩:=aS.mp r2;have qa':jS X.K H a xs:=by rw[hK];exact b9 sm qa
   have qb':jS X.K H b ys:=by rw[hK];exact b9 sm qb
   by_cases h0:xs=[]
   ·subst h0;have e0:ds=[]:=List.length_eq_zero_iff.mp la.length;subst e0;exact BM pins s σ H _ _ v u Q I rx ry ⟨a,b,ys,rfl,rfl,qa',qb',cV sm q (aS.mpr ⟨b,ys,rfl,qb,lb⟩)⟩
   ·refine DI pins s σ H _ _ v u Q I rx ry ⟨a,b,xs,ys,rfl,rfl,qa',qb',h0,by rw[<-la.length,<-lb.length];exact jF hl,λz=>?_,λz p hp=>sG sm q (la.append lb) hp⟩
    subst z;have e0:es=[]:=List.length_eq_zero_iff.mp lb.length;subst e0;rw[append_nil] at q;exact cV sm q (aS.mpr ⟨a,xs,rfl,qa,la⟩)
  |non=>cases e
  |bl _=>cases e
  |int _=>cases e
  |str _=>cases e
  |lst _=>cases e
  |fn _ _=>cases e
  |obj _ _ _=>cases e
 |lst ds=>
  cases d2 with
  |lst es=>
   obtain⟨hl,rfl⟩:=bL (c:=ds.length+es.length<=lim) e;obtain⟨a,xs,rfl,qa,la⟩:=aH.mp r1;obtain⟨b,ys,rfl,qb,lb⟩:=aH.mp r2;exact DJ pins s σ H _ _ v u Q I rx ry ⟨a,b,xs,ys,rfl,rfl,by rw[hK];exact aj.seq sm qa,by rw[hK];exact aj.seq sm qb,by rw[<-la.length,<-lb.length];exact jF hl,λp hp=>o9 sm q (la.append lb) hp⟩
  |non=>cases e
  |bl _=>cases e
  |int _=>cases e
  |str _=>cases e
  |tup _=>cases e
  |fn _ _=>cases e
  |obj _ _ _=>cases e
 |_=>cases e
theorem gS{f:Int->Int->Option R}{g:D->D->Option R}(hg:∀d1 d2,g d1 d2=match d1,d2 with|.int i,.int j=>f i j|_,_=>none){d1 d2:D}{r:R}(e:g d1 d2=some r):∃i j,d1=.int i/\d2=.int j/\f i j=some r:=by
 rw[hg] at e;cases d1 with
 |int i=>
  cases d2 with
  |int j=>exact⟨i,j,rfl,rfl,e⟩
  |non=>cases e
  |bl _=>cases e
  |str _=>cases e
  |tup _=>cases e
  |lst _=>cases e
  |fn _ _=>cases e
  |obj _ _ _=>cases e
 |_=>cases e
theorem DF:gd X (binaryOp .Sub) (rD Γ W Ek):=λpins s σ H x y v u Q I rx ry ⟨Hs,d1,d2,r,sm,r1,r2,e,q⟩=>by
 obtain⟨i,j,rfl,rfl,e⟩:=gS (f:=λi j=>okI (i - j)) (λ_ _=>rfl) e;cases e;exact FL pins s σ H x y v u Q I rx ry ⟨i,j,ah.mp r1,ah.mp r2,cV sm q (ah.mpr rfl)⟩
theorem qL{i:Int}(h:ir i=true):-(2 ^ 64)<i/\i<2 ^ 64:=by
 unfold ir at h;simpa using h
theorem jY:gd X (binaryOp .Mod) (rD Γ W lI):=λpins s σ H x y v u Q I rx ry ⟨Hs,d1,d2,r,sm,r1,r2,e,q⟩=>by
 obtain⟨i,j,rfl,rfl,e⟩:=gS (f:=λi j=>if 0<j then okI (i % j) else none) (λ_ _=>rfl) e;obtain⟨h,rfl⟩:=bL e;exact FO pins s σ H x y v u Q I rx ry ⟨i,j,ah.mp r1,ah.mp r2,h,cV sm q (ah.mpr rfl)⟩
theorem sR:gd X (compareOp .Lt) (rD Γ W CQ):=λpins s σ H x y v u Q I rx ry ⟨Hs,d1,d2,r,sm,r1,r2,e,q⟩=>by
 obtain⟨i,j,rfl,rfl,e⟩:=gS (f:=λi j=>okB (decide (i<j))) (λ_ _=>rfl) e;cases e;exact HF pins s σ H x y v u Q I rx ry ⟨i,j,ah.mp r1,ah.mp r2,cV sm q (aw.mpr rfl)⟩
theorem mU:gd X (compareOp .LtE) (rD Γ W AH):=λpins s σ H x y v u Q I rx ry ⟨Hs,d1,d2,r,sm,r1,r2,e,q⟩=>by
 obtain⟨i,j,rfl,rfl,e⟩:=gS (f:=λi j=>okB (decide (i<=j))) (λ_ _=>rfl) e;cases e;exact HG pins s σ H x y v u Q I rx ry ⟨i,j,ah.mp r1,ah.mp r2,cV sm q (aw.mpr rfl)⟩
theorem x6:gd X (compareOp .Gt) (rD Γ W Eo):=λpins s σ H x y v u Q I rx ry ⟨Hs,d1,d2,r,sm,r1,r2,e,q⟩=>by
 obtain⟨i,j,rfl,rfl,e⟩:=gS (f:=λi j=>okB (decide (j<i))) (λ_ _=>rfl) e;cases e;exact HH pins s σ H x y v u Q I rx ry ⟨i,j,ah.mp r1,ah.mp r2,cV sm q (aw.mpr rfl)⟩
theorem j5:gd X (binaryOp .Mult) (rD Γ W dMul):=λpins s σ H x y v u Q I rx ry ⟨Hs,d1,d2,r,sm,r1,r2,e,q⟩=>by
 cases d1 with
 |int i=>
  cases d2 with
  |int j=>
   obtain⟨hl,rfl⟩:=bL (c:=(ir i || ir j)=true) e;refine FN pins s σ H x y v u Q I rx ry ⟨i,j,ah.mp r1,ah.mp r2,?_,cV sm q (ah.mpr rfl)⟩;rcases Bool.or_eq_true_iff.mp hl with h|h
   ·exact .inl (qL h)
   ·exact .inr (qL h)
  |non=>cases e
  |bl _=>cases e
  |str _=>cases e
  |tup _=>cases e
  |lst _=>cases e
  |fn _ _=>cases e
  |obj _ _ _=>cases e
 |_=>cases e
theorem vW{d1 d2:D}{b:Bool}{x y:V}{H:Hp}(e:Cv d1 d2=some b)(r1:bI Γ H d1 x)(r2:bI Γ H d2 y):scal x y=true/\decide (x=y)=b:=by
 cases d1 with
 |non=>
  rw[bw.mp r1];cases d2 with
  |non=>rw[bw.mp r2];cases e;exact⟨rfl,rfl⟩
  |bl _=>rw[aw.mp r2];cases e;exact⟨rfl,rfl⟩
  |int _=>rw[ah.mp r2];cases e;exact⟨rfl,rfl⟩
  |str _=>rw[ar.mp r2];cases e;exact⟨rfl,rfl⟩
  |tup _=>cases e
  |lst _=>cases e
  |fn _ _=>cases e
  |obj _ _ _=>cases e
 |bl c=>
  rw[aw.mp r1];cases d2 with
  |non=>rw[bw.mp r2];cases e;exact⟨rfl,rfl⟩
  |bl c'=>rw[aw.mp r2];cases e;exact⟨rfl,by rw[Bool.eq_iff_iff];simp⟩
  |int _=>cases e
  |str _=>rw[ar.mp r2];cases e;exact⟨rfl,rfl⟩
  |tup _=>cases e
  |lst _=>cases e
  |fn _ _=>cases e
  |obj _ _ _=>cases e
 |int c=>
  rw[ah.mp r1];cases d2 with
  |non=>rw[bw.mp r2];cases e;exact⟨rfl,rfl⟩
  |bl _=>cases e
  |int c'=>rw[ah.mp r2];cases e;exact⟨rfl,by rw[Bool.eq_iff_iff];simp⟩
  |str _=>rw[ar.mp r2];cases e;exact⟨rfl,rfl⟩
  |tup _=>cases e
  |lst _=>cases e
  |fn _ _=>cases e
  |obj _ _ _=>cases e
 |str c=>
  rw[ar.mp r1];cases d2 with
  |non=>rw[bw.mp r2];cases e;exact⟨rfl,rfl⟩
  |bl _=>rw[aw.mp r2];cases e;exact⟨rfl,rfl⟩
  |int _=>rw[ah.mp r2];cases e;exact⟨rfl,rfl⟩
  |str c'=>rw[ar.mp r2];cases e;exact⟨rfl,by rw[Bool.eq_iff_iff];simp⟩
  |tup _=>cases e
  |lst _=>cases e
  |fn _ _=>cases e
  |obj _ _ _=>cases e
 |_=>cases e
theorem bK:gd X (compareOp .Eq) (rD Γ W dEq):=λpins s σ H x y v u Q I rx ry ⟨Hs,d1,d2,r,sm,r1,r2,e,q⟩=>by
 unfold dEq at e;cases h:Cv d1 d2 with
 |none=>rw[h] at e;cases e
 |some b=>
  rw[h] at e;cases e;obtain⟨h1,h2⟩:=vW h r1 r2;exact HI pins s σ H x y v u Q I rx ry ⟨h1,by rw[h2];exact cV sm q (aw.mpr rfl)⟩
theorem lg:gd X (compareOp .NotEq) (rD Γ W qx):=λpins s σ H x y v u Q I rx ry ⟨Hs,d1,d2,r,sm,r1,r2,e,q⟩=>by
 unfold qx at e;cases h:Cv d1 d2 with
 |none=>rw[h] at e;cases e
 |some b=>
  rw[h] at e;cases e;obtain⟨h1,h2⟩:=vW h r1 r2;exact HE pins s σ H x y v u Q I rx ry ⟨h1,by rw[h2];exact cV sm q (aw.mpr rfl)⟩
theorem ze{H:Hp}{ds:List D}{xs:List V}{i:Int}{d:D}(rl:RepL Γ H ds xs)(e:rJ ds i=some d):∃x,EB xs i=some x/\bI Γ H d x:=by
 unfold rJ at e;unfold EB;have hl:=rl.length;have e0:DW xs.length i=AF ds.length i:=by rw[hl];rfl
 rw[e0];cases h:AF ds.length i with
 |none=>rw[h] at e;cases e
 |some j=>
  rw[h] at e;exact rl.get e
theorem ke(hK:X.K=Γ.K):GX X (rD Γ W dj):=λvalue slice pins s σ H x y v u Q I rx ry ⟨Hs,d1,d2,r,sm,r1,r2,e,q⟩ hs=>by
 cases d2 with
 |int i=>
  have ey:=ah.mp r2;cases d1 with
  |tup ds=>
   have e:(rJ ds i).bind okD=some r:=e;cases h:rJ ds i with
   |none=>rw[h] at e;cases e
   |some d=>
    rw[h] at e;cases e;obtain⟨a,xs,rfl,qa,la⟩:=aS.mp r1;obtain⟨z,ez,rz⟩:=ze la h;exact ix_tup value slice pins s σ H _ _ v u Q I rx ry ⟨a,xs,i,z,rfl,ey,by rw[hK];exact b9 sm qa,ez,cV sm q rz⟩ hs
  |lst ds=>
   have e:(rJ ds i).bind okD=some r:=e;cases h:rJ ds i with
   |none=>rw[h] at e;cases e
   |some d=>
    rw[h] at e;cases e;obtain⟨a,xs,rfl,qa,la⟩:=aH.mp r1;obtain⟨z,ez,rz⟩:=ze la h;exact yK value slice pins s σ H _ _ v u Q I rx ry ⟨a,xs,i,z,rfl,ey,by rw[hK];exact aj.seq sm qa,ez,cV sm q rz⟩ hs
  |str z=>
   have e':(if z.length<=lim then(rJ z.cps.toList i).bind (λc=>okD (.str ⟨#[c]⟩)) else none)=some r:=e;by_cases hl:z.length<=lim
   ·rw[if_pos hl] at e';cases h:rJ z.cps.toList i with
    |none=>rw[h] at e';cases e'
    |some c=>
     rw[h] at e';cases e';exact Gh value slice pins s σ H _ _ v u Q I rx ry ⟨z,i,c,ar.mp r1,ey,jF hl,h,cV sm q (ar.mpr rfl)⟩ hs
   ·rw[if_neg hl] at e';cases e'
  |non=>cases e
  |bl _=>cases e
  |int _=>cases e
  |fn _ _=>cases e
  |obj _ _ _=>cases e
 |_=>cases d1 <;> cases e
theorem il{F:D->Option R}{ds:List D}{r:R}(h:f1 F ds=some r):∃d,ds=[d]/\F d=some r:=by
 match ds,h with
 |[d],h=>exact⟨d,rfl,h⟩
theorem nE{H:Hp}{d:D}{xs:List V}(h:RepL Γ H [d] xs):∃x,xs=[x]/\bI Γ H d x:=by
 obtain⟨x,r,e,q,t⟩:=aK.mp h;rw[bz.mp t] at e;exact⟨x,e,q⟩
theorem cE(hK:X.K=Γ.K):cJ X (.builtin "len") (wo Γ W (f1 cm)):=λpins s σ H xs us Q I rs ⟨Hs,ds,r,sm,rl,e,q,tb⟩=>by
 obtain⟨d,rfl,e⟩:=il e;obtain⟨x,rfl,rp⟩:=nE rl;cases d with
 |tup ds=>
  cases e;obtain⟨a,ys,rfl,qa,la⟩:=aS.mp rp;exact mE pins s σ H _ us Q I rs ⟨a,ys,rfl,.inr (by rw[hK];exact b9 sm qa),by rw[<-la.length];exact cV sm q (ah.mpr rfl)⟩
 |lst ds=>
  cases e;obtain⟨a,ys,rfl,qa,la⟩:=aH.mp rp;exact mE pins s σ H _ us Q I rs ⟨a,ys,rfl,.inl (by rw[hK];exact aj.seq sm qa),by rw[<-la.length];exact cV sm q (ah.mpr rfl)⟩
 |str z=>
  obtain⟨hl,rfl⟩:=bL (c:=z.length<=lim) e;rw[ar.mp rp] at rs;exact tX pins s σ H _ us Q I rs ⟨z,rfl,jF hl,cV sm q (ah.mpr rfl)⟩
 |_=>cases e
theorem Gz(hK:X.K=Γ.K)(hc:X.calm=true):cJ X (.builtin "sum") (wo Γ W (f1 Gw)):=λpins s σ H xs us Q I rs ⟨Hs,ds,r,sm,rl,e,q,tb⟩=>by
 obtain⟨d,rfl,e⟩:=il e;obtain⟨x,rfl,rp⟩:=nE rl;cases d with
 |lst ds=>
  have e:(intsOf ds).bind (λns=>okI ns.sum)=some r:=e;cases h:intsOf ds with
  |none=>rw[h] at e;cases e
  |some ns=>
   rw[h] at e;cases e;obtain⟨a,ys,rfl,qa,la⟩:=aH.mp rp;have ey:=la.intsOf h;subst ey;exact Am hc pins s σ H _ us Q I rs ⟨a,ns,rfl,by rw[hK];exact aj.seq sm qa,cV sm q (ah.mpr rfl)⟩
 |_=>cases e
theorem xS(hK:X.K=Γ.K)(hc:X.calm=true):cJ X (.builtin "all") (wo Γ W (f1 Ah)):=λpins s σ H xs us Q I rs ⟨Hs,ds,r,sm,rl,e,q,tb⟩=>by
 obtain⟨d,rfl,e⟩:=il e;obtain⟨x,rfl,rp⟩:=nE rl;cases d with
 |lst ds=>
  have e:(blsOf ds).bind (λbs=>okB (bs.all id))=some r:=e;cases h:blsOf ds with
  |none=>rw[h] at e;cases e
  |some ns=>
   rw[h] at e;cases e;obtain⟨a,ys,rfl,qa,la⟩:=aH.mp rp;have ey:=la.blsOf h;subst ey;exact Ap hc pins s σ H _ us Q I rs ⟨a,ns,rfl,by rw[hK];exact aj.seq sm qa,cV sm q (aw.mpr rfl)⟩
 |_=>cases e
theorem iT(hK:X.K=Γ.K):cJ X (.type "tuple") (wo Γ W (f1 jO)):=λpins s σ H xs us Q I rs ⟨Hs,ds,r,sm,rl,e,q,tb⟩=>by
 obtain⟨d,rfl,e⟩:=il e;obtain⟨x,rfl,rp⟩:=nE rl;cases d with
 |tup ds=>
  cases e;obtain⟨a,ys,rfl,qa,la⟩:=aS.mp rp;exact kL pins s σ H _ us Q I rs ⟨a,ys,rfl,.inr ⟨by rw[hK];exact b9 sm qa,cV sm q rp⟩⟩
 |lst ds=>
  cases e;obtain⟨a,ys,rfl,qa,la⟩:=aH.mp rp;exact kL pins s σ H _ us Q I rs ⟨a,ys,rfl,.inl ⟨by rw[hK];exact aj.seq sm qa,λp hp=>sG sm q la hp⟩⟩
 |_=>cases e
theorem Et(hK:X.K=Γ.K):cJ X (.type "list") (wo Γ W (f1 F1)):=λpins s σ H xs us Q I rs ⟨Hs,ds,r,sm,rl,e,q,tb⟩=>by
 obtain⟨d,rfl,e⟩:=il e;obtain⟨x,rfl,rp⟩:=nE rl;cases d with
 |tup ds=>
  cases e;obtain⟨a,ys,rfl,qa,la⟩:=aS.mp rp;exact mD pins s σ H _ us Q I rs ⟨a,ys,rfl,.inr (by rw[hK];exact b9 sm qa),λp hp=>o9 sm q la hp⟩
 |lst ds=>
  cases e;obtain⟨a,ys,rfl,qa,la⟩:=aH.mp rp;exact mD pins s σ H _ us Q I rs ⟨a,ys,rfl,.inl (by rw[hK];exact aj.seq sm qa),λp hp=>o9 sm q la hp⟩
 |_=>cases e
theorem FG{a:Vd}{g:ME}{j pos pos'}(h:PD X Γ W a g):PD X Γ W (.Compare a [.Is] [.Constant .none j pos'] pos) (dH Af g):=PE.imp (FE (BJ h)) λ_ _ σ H Q _ ⟨B0,B1,Hs,ρ,r,re,e,q⟩=>by
 refine(bu re e q).mono λv H1 ⟨Hs1,d,g1,re1,rp,e1,q1⟩=>?_;cases d with
 |non=>cases e1;rw[bw.mp rp];exact q1 _ Hs1 H1 (.refl re1.b.i) (cW.of (aw.mpr rfl))
 |bl _=>cases e1;rw[aw.mp rp];exact q1 _ Hs1 H1 (.refl re1.b.i) (cW.of (aw.mpr rfl))
 |int _=>cases e1;rw[ah.mp rp];exact q1 _ Hs1 H1 (.refl re1.b.i) (cW.of (aw.mpr rfl))
 |str _=>cases e1;rw[ar.mp rp];exact q1 _ Hs1 H1 (.refl re1.b.i) (cW.of (aw.mpr rfl))
 |tup _=>cases e1;obtain⟨a,_,rfl,_⟩:=aS.mp rp;exact q1 _ Hs1 H1 (.refl re1.b.i) (cW.of (aw.mpr rfl))
 |lst _=>cases e1;obtain⟨a,_,rfl,_⟩:=aH.mp rp;exact q1 _ Hs1 H1 (.refl re1.b.i) (cW.of (aw.mpr rfl))
 |fn _ _=>cases e1;obtain⟨a,_,rfl,_⟩:=sH.mp rp;exact q1 _ Hs1 H1 (.refl re1.b.i) (cW.of (aw.mpr rfl))
 |obj _ _ _=>cases e1;obtain⟨a,_,_,rfl,_⟩:=jT.mp rp;exact q1 _ Hs1 H1 (.refl re1.b.i) (cW.of (aw.mpr rfl))
theorem yn{a:Vd}{g:ME}{j pos pos'}(h:PD X Γ W a g):wu X Γ W (.Compare a [.Is] [.Constant .none j pos'] pos) (dH Af g):=PT.imp (Fs (BJ h)) λ_ _ σ H Q _ t=>by
 have t':=yg t;obtain⟨B0,B1,Hs,ρ,r,re,e,q⟩:=t';refine(bu re e q).mono λv H1 ⟨Hs1,d,g1,re1,rp,e1,q1⟩=>?_;cases d with
 |non=>cases e1;rw[bw.mp rp];exact q1 _ Hs1 H1 (.refl re1.b.i) (cW.of (aw.mpr rfl))
 |bl _=>cases e1;rw[aw.mp rp];exact q1 _ Hs1 H1 (.refl re1.b.i) (cW.of (aw.mpr rfl))
 |int _=>cases e1;rw[ah.mp rp];exact q1 _ Hs1 H1 (.refl re1.b.i) (cW.of (aw.mpr rfl))
 |str _=>cases e1;rw[ar.mp rp];exact q1 _ Hs1 H1 (.refl re1.b.i) (cW.of (aw.mpr rfl))
 |tup _=>cases e1;obtain⟨a,_,rfl,_⟩:=aS.mp rp;exact q1 _ Hs1 H1 (.refl re1.b.i) (cW.of (aw.mpr rfl))
 |lst _=>cases e1;obtain⟨a,_,rfl,_⟩:=aH.mp rp;exact q1 _ Hs1 H1 (.refl re1.b.i) (cW.of (aw.mpr rfl))
 |fn _ _=>cases e1;obtain⟨a,_,rfl,_⟩:=sH.mp rp;exact q1 _ Hs1 H1 (.refl re1.b.i) (cW.of (aw.mpr rfl))
 |obj _ _ _=>cases e1;obtain⟨a,_,_,rfl,_⟩:=jT.mp rp;exact q1 _ Hs1 H1 (.refl re1.b.i) (cW.of (aw.mpr rfl))
def jg(K:Frag)(T:Vg):Prop:=∀t∈["NoneType","bool","int","str","tuple","list"],kitOne K (.type t) (.type T)=some (t == T || (t == "bool" && T == "int"))
theorem F6{T:Vg}{g:ME}(hK:X.K=Γ.K)(h:jg X.K T){σ:L2.St}{H:Hp}{Q:VK}(t:tD Γ W (dH (kz T) g) σ H Q):
  tD Γ W g σ H λx H1=>∃y t U b,[x,V.ty T]=[y,V.ty U]/\(lK X.K H1 y (.type t)\/(t = "tuple" /\ ∃a xs,y=.ref a/\jS X.K H1 a xs)\/(t = "list" /\ ∃a xs,y=.ref a/\fJ X.K H1 a xs))/\kitOne X.K (.type t) (.type U)=some b/\Q (.bl b) H1:=by
 obtain⟨B0,B1,Hs,ρ,r,re,e,q⟩:=t;refine(bu re e q).mono λv H1 ⟨Hs1,d,g1,re1,rp,e1,q1⟩=>?_;have fin:∀t:Vg,kz T d=okB (t == T || (t == "bool" && T == "int"))->Q (.bl (t == T || (t == "bool" && T == "int"))) H1:=λt z=>by
  rw[z] at e1;cases e1;exact q1 _ Hs1 H1 (.refl re1.b.i) (cW.of (aw.mpr rfl))
 cases d with
 |non=>rw[bw.mp rp];exact⟨_,"NoneType",T,_,rfl,.inl .non,h _ (by simp),fin _ rfl⟩
 |bl _=>rw[aw.mp rp];exact⟨_,"bool",T,_,rfl,.inl (.bl _),h _ (by simp),fin _ rfl⟩
 |int _=>rw[ah.mp rp];exact⟨_,"int",T,_,rfl,.inl (.int _),h _ (by simp),fin _ rfl⟩
 |str _=>rw[ar.mp rp];exact⟨_,"str",T,_,rfl,.inl (.str _),h _ (by simp),fin _ rfl⟩
 |tup _=>obtain⟨a,xs,rfl,qa,_⟩:=aS.mp rp;exact⟨_,"tuple",T,_,rfl,.inr (.inl ⟨rfl,a,xs,rfl,by rw[hK];exact b9 re1.b.i qa⟩),h _ (by simp),fin _ rfl⟩
 |lst _=>
  obtain⟨a,xs,rfl,qa,_⟩:=aH.mp rp;exact⟨_,"list",T,_,rfl,.inr (.inr ⟨rfl,a,xs,rfl,by rw[hK];exact aj.seq re1.b.i qa⟩),h _ (by simp),fin _ rfl⟩
 |fn _ _=>cases e1
 |obj _ _ _=>cases e1
theorem fo{a:Vd}{g:ME}{T:Vg}{tn:Str}{p p' pos:Pos}(hK:X.K=Γ.K)(hk:jg X.K T)(hg:Gl X "isinstance")(hm:X.mg "isinstance" = none)(hg2:Gl X tn)(hm2:X.mg tn=none)(hb:bootBuiltins tn=some (.type T))(h:PD X Γ W a g)
  (hn:tn ≠ "__name__" := by decide) (hdb:(tn == ("__debug__":Str))=false:=by decide) (hs1:starEach [a,.Name tn p'] X.env=(false,eval a X.env)::starEach [.Name tn p'] X.env:=by rfl) (hs2:starEach [.Name tn p'] X.env=(false,eval (.Name tn p') X.env)::starEach [] X.env:=by rfl)
  (hpl:(backTo pos (starEach [.Name tn p'] X.env)).any (·.1)=false:=by rfl):PD X Γ W (.Call (.Name "isinstance" p) [a,.Name tn p'] [] pos) (dH (kz T) g):=
 PE.imp (m6 wg hg hm boot_isinstance (bH h (bH (DB (v:=.ty T) hg2 hm2 hb rfl hn hdb) de hs2) hs1) (by decide) (by decide) hs1 hpl) λ_ _ _ _ _ _ t=>F6 hK hk t
theorem Dt{a b:Vd}{ga gb:ME}{p pos tp:Pos}{elts:List Vd}{kt:Nat}(hK:X.K=Γ.K)(hg:Gl X "zip")(hm:X.mg "zip" = none)(ha:PD X Γ W a ga)(hb:PD X Γ W b gb)
  (hs1:starEach [a,b] X.env=(false,eval a X.env)::starEach [b] X.env:=by rfl) (hs2:starEach [b] X.env=(false,eval b X.env)::starEach [] X.env:=by rfl) (hs3:starEach [a,b] X.env=[(false,eval a X.env),(false,eval b X.env)]:=by rfl) (hs4:starEach [b] X.env=[(false,eval b X.env)]:=by rfl):
  AC X Γ W (.Tuple elts kt tp) (.Call (.Name "zip" p) [a,b] [] pos) (DZ ga gb):=PI.imp (Fv hg hm (bH ha (bH hb de hs2) hs1) hs3 hs4) λ_ _ σ H Q _ ⟨B0,B1,Hs,ρ,r,re,e,q⟩=>by
 refine(su re e q).mono λv H1 ⟨Hs1,d,g1,re1,rp,e1,q1⟩=>?_;refine(su re1 e1 q1).mono λu H2 ⟨Hs2,d2,g2,re2,rp2,e2,q2⟩=>?_;have rp:=rp.mono g2.s;have sm:=re2.b.i;have step:∀(bb:Bool)(l1 l2:Q9)(xs ys:List V)(ds es:List D),v=.ref l1->u=.ref l2->nr X.K Hs2 bb l1 xs->nr X.K Hs2 bb l2 ys->RepL Γ Hs2 ds xs->RepL Γ Hs2 es ys->r=.ok (zipWith (λu v=>D.tup [u,v]) ds es)->
   ∃b l1 l2,[v,u]=[V.ref l1,V.ref l2]/\(∃xs,nr X.K H2 b l1 xs)/\(∃ys,nr X.K H2 b l2 ys)/\Q (IG X.K b l1 b l2) H2:=λbb l1 l2 xs ys ds es e1 e2 s1 s2 rl1 rl2 er=>by
  subst e1 e2 er;have mv:∀{Hx Hy:Hp}{l:Q9}{zs:List V},aj Hx Hy->nr X.K Hx bb l zs->nr X.K Hy bb l zs:=λ{Hx Hy l zs} k s=>by
   cases bb with
   |true=>exact aj.seq k s
   |false=>exact b9 k s
  refine⟨bb,l1,l2,rfl,⟨xs,mv sm s1⟩,⟨ys,mv sm s2⟩,q2 _ Hs2 H2 (.refl sm) ⟨λi Hs3 H3 hi k1 k2=>?_,λHs3 H3 k1 k2=>?_,λi Hs3 H3 x H4 hi k1 k2 y=>?_⟩⟩
  ·rw[length_zipWith] at hi;have i1:i<xs.length:=by rw[<-rl1.length];omega
   have i2:i<ys.length:=by rw[<-rl2.length];omega
   exact⟨xs,ys,xs[i],ys[i],mv (k1.trans k2) s1,mv (k1.trans k2) s2,getElem?_eq_getElem i1,getElem?_eq_getElem i2⟩
  ·refine⟨xs,ys,mv (k1.trans k2) s1,mv (k1.trans k2) s2,?_⟩;rw[length_zipWith,<-rl1.length,<-rl2.length];omega
  ·rw[length_zipWith] at hi;obtain⟨p,a1,a2,rfl,hp,rfl,f1,f2⟩:=y;have i1:i<ds.length:=by omega
   have i2:i<es.length:=by omega
   obtain⟨x1,e1,q1'⟩:=rl1.get (getElem?_eq_getElem i1);obtain⟨x2,e2,q2'⟩:=rl2.get (getElem?_eq_getElem i2);have z1:=f1 xs (mv (k1.trans k2) s1);have z2:=f2 ys (mv (k1.trans k2) s2);rw[e1] at z1;rw[e2] at z2;cases z1;cases z2;refine⟨.tup [ds[i],es[i]],bW Hs3 p (.tup [a1,a2]),?_,.new k2 hp,?_⟩
   ·rw[List.getElem?_zipWith,getElem?_eq_getElem i1,getElem?_eq_getElem i2]
   ·have k3:aj Hs3 (bW Hs3 p (.tup [a1,a2])):=bJ (k2.free hp);exact aS.mpr ⟨p,[a1,a2],rfl,.of aF,.cons ((q1'.mono k1).mono k3) (.cons ((q2'.mono k1).mono k3) .nil)⟩
 cases d with
 |lst ds=>
  cases d2 with
  |lst es=>
   cases e2;obtain⟨l1,xs,ev,s1,rl1⟩:=aH.mp rp;obtain⟨l2,ys,eu,s2,rl2⟩:=aH.mp rp2;rw[<-hK] at s1 s2;exact step true l1 l2 xs ys ds es ev eu s1 s2 rl1 rl2 rfl
  |non=>cases e2
  |bl _=>cases e2
  |int _=>cases e2
  |str _=>cases e2
  |tup _=>cases e2
  |fn _ _=>cases e2
  |obj _ _ _=>cases e2
 |tup ds=>
  cases d2 with
  |tup es=>
   cases e2;obtain⟨l1,xs,ev,s1,rl1⟩:=aS.mp rp;obtain⟨l2,ys,eu,s2,rl2⟩:=aS.mp rp2;rw[<-hK] at s1 s2;exact step false l1 l2 xs ys ds es ev eu s1 s2 rl1 rl2 rfl
  |non=>cases e2
  |bl _=>cases e2
  |int _=>cases e2
  |str _=>cases e2
  |lst _=>cases e2
  |fn _ _=>cases e2
  |obj _ _ _=>cases e2
 |_=>cases e2
end
section
variable{X:Cx}{Γ:Ct}{W:XW}{i:Nat}{x:Str}{e ex:Vd}{ge gx:ME}{px apos cpos pos:Pos}
theorem mS{i:Nat}{ρ:aA}{k:List D->Option kh}{o:kh}(h:x5 i ρ k=some o):∃ds,ρ[i]?=some (some (.own (.lst ds)))/\k ds=some o:=by
 unfold x5 at h;split at h
 ·rename_i ds hd;exact⟨ds,hd,h⟩
 ·cases h
theorem bY(hv:PE X (.Name x px) (mL i))(he:PD X Γ W e ge)(hs:starEach [e] X.env=(false,eval e X.env)::starEach [] X.env:=by rfl)
  (hbase:attributeBase (.Name x px) "append" X.env (eval (.Name x px) X.env)=eval (.Name x px) X.env:=by rfl)
  (hfew:((backTo cpos (starEach [e] X.env)).all (λx=>!x.1) && (backToKw cpos (keywordEach [] X.env)).all (λx=>x.1.isSome) && decide ([e].length+([]:List Keyword).length+(if([]:List Keyword).isEmpty then 0 else 1)<30))=true:=by rfl)
  (hline:(apos.endLine == cpos.line)=true:=by rfl) (hplain:(backTo cpos (starEach [] X.env)).any (·.1)=false:=by rfl) (hsw:swapsWith (.Call (.Attribute (.Name x px) "append" apos) [e] [] cpos) none pos.line X.env=pure false:=by rfl):
  ox X Γ W (.Expr (.Call (.Attribute (.Name x px) "append" apos) [e] [] cpos) pos) (cH i ge):=
 PS.imp (jV (qT PySem.F.plainAttrs_list PySem.F.slot_list_append PySem.F.type_list_append iM hv (bH he de hs) hbase hfew hline hs hplain) hsw) λpins s σ H En I ⟨B0,B1,Hs,ρ,o,re,eo,q⟩=>by
  obtain⟨ds,hd,eo⟩:=mS eo;obtain⟨a,ho,e1,e2,e3,e4,xs,rfl,rl⟩:=re.own i _ hd;refine⟨.ref a,e1,.inl ⟨rfl,xs,.of e4⟩,(wG re eo q).mono λy H1 ⟨Hs1,s,g1,rs,e5⟩=>?_⟩;obtain⟨hl,rfl⟩:=bL e5;obtain⟨Hs2,g2,_,rp⟩:=rs.share g1;refine⟨a,xs,y,rfl,rfl,g2.h _ _ e4,by rw[<-rl.length];exact lt_of_lt_of_le hl (by decide),q σ Hs2 _ g2.s ((re.grow g2).write hd e1 ⟨_,rfl,(rl.mono g2.s).append (.cons rp .nil)⟩)⟩
end
def W0:XW:=λ_ _ _=>False
theorem uT{Γ:Ct}{Hs H:Hp}(sm:aj Hs H){N:List Str}{ds:List D}{vs:List V}(rl:RepL Γ Hs ds vs)(tb:aj Γ.tb Hs):RE Γ Hs H Hs H (L2.start N vs) (eM N.length ds):=by
 have hl:=rl.length;have at':∀(i:Nat)(s:S),(eM N.length ds)[i]?=some (some s)->∃d,s=.sh d/\ds[i]?=some d:=λi s e=>by
  unfold eM at e;by_cases hi:i<ds.length
  ·rw[List.getElem?_append_left (by simpa using hi),getElem?_map,getElem?_eq_getElem hi] at e
   cases e;exact⟨ds[i],rfl,getElem?_eq_getElem hi⟩
  ·rw[List.getElem?_append_right (by simpa using hi),List.getElem?_replicate] at e
   split at e <;> cases e
 refine⟨.refl sm,λi d e=>?_,λi o e=>?_,λi j o u a _ e=>?_,?_,tb⟩
 ·obtain⟨d',e1,e2⟩:=at' i _ e;cases e1;obtain⟨v,e3,q⟩:=rl.get e2;refine⟨v,?_,q⟩;have hi:i<vs.length:=(List.getElem?_eq_some_iff.mp e3).1;unfold L2.start;rw[List.getElem?_append_left (by simpa using hi),getElem?_map,e3]
  rfl
 ·obtain⟨_,e1,_⟩:=at' i _ e;cases e1
 ·obtain⟨_,e1,_⟩:=at' i _ e;cases e1
 ·unfold eM L2.start;rw[length_append,length_append,length_map,length_map,length_replicate,length_replicate,hl]
section
variable{P:Va}{w:Vb}{K:Frag}{mg:Str->Option Q7}{base:Vc}{Γ:Ct}
theorem vU{np n:Nat}{g:MC}{ds:List D}{r:R}(h:kH np n g ds=some r):ds.length=np/\HB (g (eM n ds))=some r:=by
 unfold kH at h;by_cases z:ds.length=np
 ·rw[if_pos z] at h;exact⟨z,h⟩
 ·rw[if_neg z] at h;cases h
theorem E7{x qual:Str}{st:Ve}{f:Q9}{fd:FuncData}{N ps:List Str}{k:Nat}{g:MC}(F:wx K x qual st f fd)(S:aE N ps (aa st))
  (body:∀(cdv:Q7)(A:Vf)(outer:List PySem.Env)(s:Q8)(H:Hp)(E:XK),cg k (A.deeper (envOfC qual (aa st) s.heap.objs.size f cdv))->iV (jP kA P w K mg base N qual (aa st) f cdv A outer s H E).nox Γ W0 (ao st) g):
  eI P w K mg base kA (k+1) f fd ps (CN Γ W0 (kH ps.length N.length g)):=by
 refine F.ok S (λvs H Q E ⟨Hs,ds,r,sm,rl,e,q,tb⟩=>?_) (λcdv A outer s H vs Q E hr ⟨Hs,ds,r,sm,rl,e,q,tb⟩=>?_)
 ·rw[<-rl.length];exact(vU e).1
 ·obtain⟨_,e⟩:=vU e;refine⟨tS Γ W0 g,body cdv A outer s H E hr,?_⟩;cases h:g (eM N.length ds) with
  |none=>rw[h] at e;cases e
  |some o=>
   rw[h] at e;refine⟨Hs,H,Hs,eM N.length ds,o,uT sm rl tb,h,?_⟩;cases o with
   |next ρ'=>cases e;exact λσ' Hs' H' _ re=>q .non Hs' H' re.b (cW.of (bw.mpr rfl))
   |brk ρ'=>cases e
   |cont ρ'=>cases e
   |ret s=>cases e;exact λv Hs' H' _ g' rs=>q v Hs' H' g' rs
   |exc x=>cases e;exact λHs' H' _ g'=>q Hs' H' g'
theorem Co{x qual:Str}{st:Ve}{f:Q9}{fd:FuncData}{N ps:List Str}{k:Nat}{g:(List D->Option R)->MC}(F:wx K x qual st f fd)(S:aE N ps (aa st))
  (body:∀(G:List D->Option R)(j:Nat),k<=j->eI P w K mg base kA j f fd ps (CN Γ W0 G)->∀(cdv:Q7)(A:Vf)(outer:List PySem.Env)(s:Q8)(H:Hp)(E:XK),cg j (A.deeper (envOfC qual (aa st) s.heap.objs.size f cdv))->iV (jP kA P w K mg base N qual (aa st) f cdv A outer s H E).nox Γ W0 (ao st) (g G)):
  ∀n,eI P w K mg base kA (k+n) f fd ps (CN Γ W0 (n.rec (λ_=>none) λ_ G=>kH ps.length N.length (g G)))
 |0=>⟨λvs H Q E ⟨Hs,ds,r,_,_,e,_,_⟩=>(nomatch e),λA outer s H args us vs Q E _ _ _ _ ⟨Hs,ds,r,_,_,e,_,_⟩=>(nomatch e)⟩
 |n+1=>E7 F S (body _ (k+n) (le_add_right _ _) (Co F S body n))
end
theorem pd(K:Frag):jg K "tuple" /\ jg K "list" /\ jg K "bool" /\ jg K "int" /\ jg K "str" := by
 refine⟨?_,?_,?_,?_,?_⟩ <;>
 ·intro t ht;have:t = "NoneType" \/ t = "bool" \/ t = "int" \/ t = "str" \/ t = "tuple" \/ t = "list" := by simpa using ht
  rcases this with rfl|rfl|rfl|rfl|rfl|rfl <;> rfl
def iD(P:Va)(w:Vb)(K:Frag)(mg:Str->Option Q7)(base:Vc)(Γ:Ct)(k:Nat)(x:Str)(ps:List Str)(F:List D->Option R):Prop:=
 ∃f fd,eI P w K mg base kA k f fd ps (CN Γ W0 F)/\mg x=some (.ref f)/\keepIn K (.ref f)=true/\fZ K fd ps []
section
variable{X:Cx}{Γ:Ct}{k:Nat}{ps:List Str}{x:Str}{p pos:Pos}{e:Vd}{es:List Vd}{gs:List ME}{F:List D->Option R}
theorem bS(h:iD X.prog X.w X.K X.mg X.base Γ k x ps F)(hr:cg k X.A)(hg:Gl X x)(ha:pS X Γ W0 (e::es) gs)(hdb:(x == ("__debug__":Str))=false:=by decide)(he:starEach (e::es) X.env=(false,eval e X.env)::starEach es X.env:=by rfl)(hpl:(backTo pos (starEach es X.env)).any (·.1)=false:=by rfl):
  PD X Γ W0 (.Call (.Name x p) (e::es) [] pos) (au F gs):=by
 obtain⟨f,fd,G,hm,hk,hb⟩:=h;exact DD G hr hg hm hk hb ha hdb he hpl
theorem FH(h:iD X.prog X.w X.K X.mg X.base Γ k x ps F)(hr:cg k X.A)(hg:Gl X x)(ha:GW X Γ W0 (e::es) gs)(hdb:(x == ("__debug__":Str))=false:=by decide)(he:starEach (e::es) X.env=(false,eval e X.env)::starEach es X.env:=by rfl)(hpl:(backTo pos (starEach es X.env)).any (·.1)=false:=by rfl):
  PD X Γ W0 (.Call (.Name x p) (e::es) [] pos) (aJ F gs):=by
 obtain⟨f,fd,G,hm,hk,hb⟩:=h;exact BI G hr hg hm hk hb ha hdb he hpl
end
structure d8(K:Frag)(mg:Str->Option Q7)(x:Str)(st:Ve)(ps:List Str):Prop where
 ex:∃f fd,wx K x x st f fd/\mg x=some (.ref f)/\fZ K fd ps []
section
variable{P:Va}{w:Vb}{K:Frag}{mg:Str->Option Q7}{base:Vc}{Γ:Ct}
theorem cK{x:Str}{st:Ve}{N ps:List Str}{k:Nat}{g:MC}(L:d8 K mg x st ps)(S:aE N ps (aa st))
  (body:∀(f:Q9)(cdv:Q7)(A:Vf)(outer:List PySem.Env)(s:Q8)(H:Hp)(E:XK),cg k (A.deeper (envOfC x (aa st) s.heap.objs.size f cdv))->iV (jP kA P w K mg base N x (aa st) f cdv A outer s H E).nox Γ W0 (ao st) g):
  iD P w K mg base Γ (k+1) x ps (kH ps.length N.length g):=by
 obtain⟨f,fd,F,hm,hb⟩:=L.ex;exact⟨f,fd,E7 F S (body f),hm,F.kp,hb⟩
theorem xG{x:Str}{st:Ve}{N ps:List Str}{k:Nat}{g:(List D->Option R)->MC}(L:d8 K mg x st ps)(S:aE N ps (aa st))
  (body:∀(f:Q9)(G:List D->Option R)(j:Nat),k<=j->iD P w K mg base Γ j x ps G->∀(cdv:Q7)(A:Vf)(outer:List PySem.Env)(s:Q8)(H:Hp)(E:XK),cg j (A.deeper (envOfC x (aa st) s.heap.objs.size f cdv))->iV (jP kA P w K mg base N x (aa st) f cdv A outer s H E).nox Γ W0 (ao st) (g G)) (n:Nat):
  iD P w K mg base Γ (k+n) x ps (n.rec (λ_=>none) λ_ G=>kH ps.length N.length (g G)):=by
 obtain⟨f,fd,F,hm,hb⟩:=L.ex;exact⟨f,fd,Co F S (λG j hj ok=>body f G j hj ⟨f,fd,ok,hm,F.kp,hb⟩) n,hm,F.kp,hb⟩
theorem cx{h:Vc}(X:K.In h)(G:h.Ns mainGlobals mg){x:Str}{st:Ve}{ps:List Str}{f:Q9}{oc:Q7}{od an:Option Q9}{osl:Array (Option Q7)}{kV doc pm cdv ct:Q7}(a:nsIn K mainGlobals x=some (some (.ref f)))
  (l:K.lookup f=some ⟨oc,od,.func (fnOf x x (aI st) (ao st) (aa st) .none kV doc pm an cdv ct),osl⟩) (c:codeIn K cdv x=true) (k:keepIn K (.ref f)=true)
  (hb:∀(kV doc pm:Q7)(an:Option Q9)(cdv ct:Q7)(us:List Q7),us.length=ps.length->bindArgs (fnOf x x (aI st) (ao st) (aa st) .none kV doc pm an cdv ct) ⟨us,[]⟩=pure (ps.zip us)):d8 K mg x st ps:=
 ⟨f,_,n9 l c k,mg_of X G a,(n9 l c k).binds hb⟩
end
theorem mZ(K:Frag):jg K "tuple" := (pd K).1
theorem pe(K:Frag):jg K "list" := (pd K).2.1
theorem mj(K:Frag):jg K "bool" := (pd K).2.2.1
theorem yH(K:Frag):jg K "int" := (pd K).2.2.2.1
theorem DT(K:Frag):jg K "str" := (pd K).2.2.2.2
theorem eV:bootBuiltins "tuple" = some (.type "tuple"):=by decide +kernel
theorem ou:bootBuiltins "list" = some (.type "list"):=by decide +kernel
theorem ow:bootBuiltins "bool" = some (.type "bool"):=by decide +kernel
theorem pK:bootBuiltins "int" = some (.type "int"):=by decide +kernel
theorem xV:bootBuiltins "str" = some (.type "str"):=by decide +kernel
theorem GB:bootBuiltins "sum" = some (.builtin "sum"):=by decide +kernel
theorem xW:bootBuiltins "all" = some (.builtin "all"):=by decide +kernel
def B9(K:Frag):Sp:=λvs H Q _=>∃(a:Q9)(ns:List Int),vs=[.ref a]/\fJ K H a (ns.map V.int)/\ns.length<=63/\∀H',Q (.bl true) H'
theorem Ga{P:Va}{w:Vb}{K:Frag}{mg:Str->Option Q7}{base:Vc}{Γ:Ct}{k:Nat}{f:Q9}{fd:FuncData}{x:Str}{F:List D->Option R}(h:eI P w K mg base kA k f fd [x] (CN Γ W0 F))(hK:Γ.K=K)(htb:Γ.tb=λ_=>none)
  (T:∀ns:List Int,ns.length<=63->F [.lst (ns.map D.int)]=some (.ok (.sh (.bl true)))):eI P w K mg base kA k f fd [x] (B9 K):=
 h.imp λvs H Q E ⟨a,ns,ev,hS,hl,q⟩=>by
  subst hK;subst ev;refine⟨H,[.lst (ns.map D.int)],_,.refl _,.cons (aH.mpr ⟨a,_,rfl,hS,RepL.ints ns⟩) .nil,T ns hl,λv Hs' H' g rs=>?_,λb o z=>by rw[htb] at z;cases z⟩
  have rs':bI Γ Hs' (.bl true) v:=rs;rw[aw.mp rs'];exact q H'
theorem BZ{l:PySem.W.OpenLaw}{q:Va}{loose:List Str}{XP:(Str->Option Q7)->Vc->Prop}{YP:Vb->Vc->Prop}{d:DefRec}{K:Params->Frag}{k:Nat}{x:Str}(hk:k<=60)(hn:l.most=some 63)(hdf:d.params.defaults=[])
  (hY:∀(w:Vb)(h:Vc),YP w h->(K w.params).In h)
  (F:∀(w:Vb)(mg:Str->Option Q7)(fa:Q9)(h:Vc),(K w.params).In h->h.Ns mainGlobals mg->mg d.name=some (.ref fa)->
   ∃fd:FuncData,(∀(s:Q8)(u:Q7),BindsTo s fd ⟨[u],[]⟩ [(x,u)])/\∀base:Vc,eI l.prog w (K w.params) mg base kA k fa fd [x] (B9 (K w.params))):
  PySem.W.WalkO q loose XP YP l.row.toRowW d [] (λf vs=>PySem.call f vs):=
 L2.walk_of (n:=63) (k:=k) (x:=x) (CX:=λ_=>kA) (sp:=λw=>B9 (K w.params)) hn (by decide) hdf (cg.mono (k:=60) ⟨rfl,by decide,by decide⟩ hk) hY (λw mg fa h KX G hm=>by
  obtain⟨fd,hb,ok⟩:=F w mg fa h KX G hm;exact⟨fd,hb,λbase _ _=>ok base⟩) (λ_ _ a ns hl _ hS=>⟨a,ns,rfl,hS,hl,λ_=>rfl⟩) λ_ _ _ _ _ z=>z
section
variable{X:Cx}{Γ:Ct}{W:XW}
theorem yx:gd X (binaryOp .LShift) (rD Γ W xQ):=λpins s σ H x y v u Q I rx ry ⟨Hs,d1,d2,r,sm,r1,r2,e,q⟩=>by
 obtain⟨i,j,rfl,rfl,e⟩:=gS (f:=λi j=>if 0<=j/\j<=1000000/\i.natAbs<2 ^ 64 then okI (i * 2 ^ j.toNat) else none) (λ_ _=>rfl) e;obtain⟨h,rfl⟩:=bL e;exact FM pins s σ H x y v u Q I rx ry ⟨i,j,ah.mp r1,ah.mp r2,h,cV sm q (ah.mpr rfl)⟩
theorem GD{x y:Int}(hx:0<=x)(hy:0<=y):Builtin.bitOr x y=((x.toNat ||| y.toNat:Nat):Int):=by
 obtain⟨a,rfl⟩:∃a:Nat,x=a:=⟨x.toNat,by omega⟩
 obtain⟨b,rfl⟩:∃b:Nat,y=b:=⟨y.toNat,by omega⟩
 have h1:¬(0:Int)<=Builtin.bitNot (a:Int):=by unfold Builtin.bitNot;omega
 have h2:¬(0:Int)<=Builtin.bitNot (b:Int):=by unfold Builtin.bitNot;omega
 unfold Builtin.bitOr Builtin.bitAnd;rw[decide_eq_false h1,decide_eq_false h2];dsimp only;have e1:Builtin.bitNot (Builtin.bitNot (a:Int))=a:=by unfold Builtin.bitNot;omega
 have e2:Builtin.bitNot (Builtin.bitNot (b:Int))=b:=by unfold Builtin.bitNot;omega
 rw[e1,e2];simp only[toNat_natCast];unfold Builtin.bitNot;omega
theorem sS:gd X (binaryOp .BitOr) (rD Γ W nW):=λpins s σ H x y v u Q I rx ry ⟨Hs,d1,d2,r,sm,r1,r2,e,q⟩=>by
 obtain⟨i,j,rfl,rfl,e⟩:=gS (f:=λi j=>if 0<=i/\0<=j then okI ((i.toNat ||| j.toNat:Nat):Int) else none) (λ_ _=>rfl) e;obtain⟨h,rfl⟩:=bL e;exact HD pins s σ H x y v u Q I rx ry ⟨i,j,ah.mp r1,ah.mp r2,by dsimp only;rw[GD h.1 h.2];exact cV sm q (ah.mpr rfl)⟩
section
variable{a b c:Vd}{ga gb gc:ME}{pos:Pos}
theorem uC{f g:D->D->Option R}{σ:L2.St}{H:Hp}{Q:VK}(t:tD Γ W (gW f g ga gb gc) σ H Q):wH (rD Γ W f) (rD Γ W g) (tD Γ W ga) (tD Γ W gb) (tD Γ W gc) σ H Q:=by
 obtain⟨B0,B1,Hs,ρ,r,re,e,q⟩:=t;refine(bu re e q).mono λv H1 ⟨Hs1,d,g1,re1,rp,e1,q1⟩=>?_;refine(bu re1 e1 q1).mono λu H2 ⟨Hs2,d2,g2,re2,rp2,e2,q2⟩=>?_;cases h:f d d2 with
 |none=>rw[h] at e2;cases e2
 |some x=>
  rw[h] at e2;refine⟨Hs2,d,d2,x,re2.b.i,rp.mono g2.s,rp2,h,?_⟩;cases x with
  |exc y=>cases e2;exact q2
  |ok s=>
   intro z Hs3 H3 g3 rs;obtain⟨Hs4,g4,sm4,rp4⟩:=rs.share g3;obtain⟨k,ek,e3⟩:=fX (show asB s.val _=some r from e2);rw[ek] at rp4;refine⟨k,aw.mp rp4,?_⟩;cases k with
   |false=>
    rw[if_neg Bool.false_ne_true] at e3;cases e3;exact HW (q2 _ Hs4 H3 g4 (cW.of (aw.mpr rfl)))
   |true=>
    rw[if_pos rfl] at e3;refine HV ?_;refine(bu (re2.grow g4) e3 (q2.grow g4)).mono λw H5 ⟨Hs5,d5,g5,re5,rp5,e5,q5⟩=>?_;exact⟨Hs5,d2,d5,r,re5.b.i,(rp2.mono g4.s).mono g5.s,rp5,e5,q5⟩
theorem v9{op op':CmpOp}{f g:D->D->Option R}(ho:gd X (compareOp op) (rD Γ W f))(ho':gd X (compareOp op') (rD Γ W g))(ha:PD X Γ W a ga)(hb:PD X Γ W b gb)(hc:PD X Γ W c gc)
  (hm:lastMarks [op,op'] [b,c]=false:=by with_unfolding_all rfl):PD X Γ W (.Compare a [op,op'] [b,c] pos) (gW f g ga gb gc):=
 PE.imp (BC ho ho' ha hb hc hm) λ_ _ _ _ _ _ t=>uC t
theorem zL{op op':CmpOp}{f g:D->D->Option R}(ho:gd X (compareOp op) (rD Γ W f))(ho':gd X (compareOp op') (rD Γ W g))(ha:PD X Γ W a ga)(hb:PD X Γ W b gb)(hc:PD X Γ W c gc)
  (hm:lastMarks [op,op'] [b,c]=false:=by with_unfolding_all rfl):wu X Γ W (.Compare a [op,op'] [b,c] pos) (gW f g ga gb gc):=
 PT.imp (Bn ho ho' ha hb hc hm) λ_ _ _ _ _ _ t=>uC (yg t)
end
theorem GA:cJ X (.type "int") (wo Γ W (f1 dInt)):=λpins s σ H xs us Q I rs ⟨Hs,ds,r,sm,rl,e,q,tb⟩=>by
 obtain⟨d,rfl,e⟩:=il e;obtain⟨x,rfl,rp⟩:=nE rl;cases d with
 |int i=>cases e;exact rA pins s σ H _ us Q I rs (.inl ⟨i,by rw[ah.mp rp],cV sm q (ah.mpr rfl)⟩)
 |bl b=>cases e;exact rA pins s σ H _ us Q I rs (.inr ⟨b,by rw[aw.mp rp],cV sm q (ah.mpr rfl)⟩)
 |_=>cases e
end
end L3
namespace L2
open PySem PySem.Spec PyProof.Rows
theorem Ad{prog:Va}{w:Vb}{A:Vf}(hh:A.handled=none){it l:Q9}(ne:l≠it)(items:Array Q7):Draws prog w A it [it,l] items.size (λi v=>items[i]?=some v) (λi h=>h.IsTupleIter it l i/\h.IsTuple l items) where
 live:=λ_ _ st=>by obtain⟨⟨o,e,_⟩,_⟩:=st;exact⟨o,e⟩
 frame:=λ_ _ _ st k=>⟨Heap.IsTupleIter.at st.1 λo e=>k it (by simp) o e,Heap.IsTuple.at st.2 λo e=>k l (by simp) o e⟩
 item:=λi s Q E hi st hQ=>p5 st.1 st.2 (Array.getElem?_eq_getElem hi) λg a b=>hQ _ g s.toks (Array.getElem?_eq_getElem hi) ⟨a,st.2.extBut b.extBut ne⟩ b
 done:=λs Q E st hE=>qX hh st.1 st.2 (by simp) hE
theorem Eh{prog:Va}{w:Vb}{A:Vf}(hh:A.handled=none){it l:Q9}(ne:l≠it)(items:Array Q7)(b:Bool):Draws prog w A it [it,l] items.size (λi v=>items[i]?=some v) (λi h=>tx h b it l i/\GS h b l items):=by
 cases b with
 |true=>exact Draws.list hh it l ne items
 |false=>exact Ad hh ne items
def JI(K:Frag)(b:Bool)(l:Q9):It:=
 ⟨λi H=>∃xs x,nr K H b l xs/\xs[i]?=some x,
  λi H x H'=>∃p u,x=.ref p/\H p=none/\H'=bW H p (.tup [.int i,u])/\∀xs,nr K H b l xs->xs[i]?=some u,
  λi H=>∃xs,nr K H b l xs/\xs.length<=i⟩
theorem DX{h:Vc}{b:Bool}{it l:Q9}{i:Nat}(j:tx h b it l i):∃o,h.get? it=some o/\∀v,o.data≠.cell v:=by
 cases b with
 |_=>obtain⟨o,e,_,d⟩:=j;exact⟨o,e,λv z=>by rw[d] at z;cases z⟩
theorem Gi{h h':Vc}{b:Bool}{it l:Q9}{i:Nat}(j:tx h b it l i)(k:∀o,h.get? it=some o->h'.get? it=some o):tx h' b it l i:=by
 cases b with
 |true=>exact Heap.IsListIter.at j k
 |false=>exact Heap.IsTupleIter.at j k
theorem zv{P:Va}{w:Vb}{K:Frag}{elts:List Vd}{kt:Nat}{tp:Pos}(b:Bool)(e it l:Q9)(hei:e≠it)(hle:l≠e)(hli:l≠it):
  u7 P w K (.Tuple elts kt tp) (JI K b l) [e,it] e (λi h=>(∃old,IsEnum h e it i old)/\tx h b it l i) where
 mem:=by simp
 obj:=λi h ⟨⟨old,he⟩,j⟩ c hc=>by
  rcases mem_cons.mp hc with rfl|hc
  ·exact⟨_,he,λv z=>nomatch z⟩
  ·rw[mem_singleton.mp hc];exact DX j
 keep:=λi h h' ⟨⟨old,he⟩,j⟩ k=>⟨⟨old,k e (by simp) _ he⟩,Gi j λo z=>k it (by simp) o z⟩
 item:=by
  intro X hP hw hK hc i pins s σ H E I hf ⟨⟨old,he⟩,j⟩ ⟨xs,x,q1,hx⟩;subst hP hw hK;obtain⟨t1,r1,p1,lt1⟩:=I.seqX q1;obtain⟨u1,e1,ru1⟩:=r1.get hx;have hi:i<t1.toArray.size:=by
   have:=(List.getElem?_eq_some_iff.mp e1).1;simpa using this
  have W:=WalksT.enumerateD (Eh (prog:=X.prog) (w:=X.w) (A:=X.A.in1) (I.ok.hd hc) hli t1.toArray b) e hei (by simp[hei,Ne.symm hle]) (by simp)
  refine W.item i s _ _ hi ⟨⟨old,he⟩,j,p1⟩ λT vals h' tk ⟨t,v,hv,ev⟩ hT isT mid kp=>?_;have ev1:v=u1:=by
   have:t1[i]?=some v:=by simpa using hv
   rw[e1] at this;exact(Option.some.inj this).symm
  subst ev1;refine⟨_,rfl,W.go elts kt tp i T {s with heap:=h',toks:=tk} _ _ mid λh2 st2 kp2=>?_⟩;have Tn:T∉[e,it]:=W.apart i T h' mid;have I1:aD X pins σ H {s with heap:=h2,toks:=tk}:=I.turnedN (t':=tk) (ch:=[e,it]) (λc o hc z=>kp2 c o hc (kp c o hc z)) hf;have fT:FpOk X pins H T:=I.fpOk hT (I.hok.fresh hT);have I2:aD X pins σ (bW H T (.tup [.int i,x])) {s with heap:=h2,toks:=tk}:=I1.track fT ⟨by show 2<=sizeLine;decide,[.int i t,v],.cons ⟨t,rfl⟩ (.cons ru1 .nil),by
   rw[ev] at isT;exact Heap.IsTuple.at isT λo z=>kp2 T o Tn z⟩
  refine⟨.ref T,_,I2,rfl,⟨T,x,rfl,fT.1,rfl,λxs' q=>by rw[I.seqX_inj q q1];exact hx⟩,⟨st2.1,st2.2.1⟩,λc hc=>?_⟩
  rw[ak]
  ·exact(hf c hc).1
  ·intro z;subst z;exact Tn hc
 done:=by
  intro X hP hw hK hc i pins s σ H E I hf ⟨⟨old,he⟩,j⟩ ⟨xs,q1,hl⟩;subst hP hw hK;obtain⟨t1,r1,p1,lt1⟩:=I.seqX q1;have le1:=r1.length;have hT:s.TypeIs (.ref e) "enumerate" := ⟨_,he,rfl⟩;have N1:=BN (prog:=X.prog) (w:=X.w) (A:=X.A.in1) (I.ok.hd hc) hli t1.toArray b;unfold pyNext;refine wpAny_bind (wpAny_attempt (wpAny_callSpecial?_slot (name:=Str.ofString "__next__") hT F.slot_enumerate_next (wpAny_call_entry F.slot_enumerate_next hT F.entry_enumerate_next ?_ (F.args_enumerate_next_1 _))));show wpAny _ _ (field (.ref e) 2 >>= _) _ _ _;refine wpAny_bind (wpAny_field he rfl (x:=.ref it) rfl (wpAny_bind (N1.stop s i _ _ ⟨j,p1⟩ (by simp;omega) λg z kg ⟨o,ho,hc⟩=>?_)))
  refine wpAny_bind (wpAny_isInstance (T := "StopIteration") (b:=true) ⟨o,ho,hc⟩ isSubtype_stop (wpAny_pure ⟨rfl,I.turnedN (ch:=[e,it]) (t':=s.toks) (λc o hc z=>kg c o ?_ z) hf⟩));intro z;exact hc (by simp[z])
 self:=λA i s Q E st h=>by
  obtain⟨⟨old,he⟩,_⟩:=st;exact wpAny_pyIter_enum he h
abbrev IC(h:Vc)(l:Q9):Vc:=h.push {cls:=.type "tuple_iterator",data:=.fields #[.ref l,.int 0 0]}
abbrev Jz(h:Vc)(l:Q9):Vc:=(IC h l).push {cls:=.type "enumerate",data:=.fields #[.none,.bool false,.ref h.objs.size,rawInt 0,.none,.none]}
theorem p7(l:Q9)(xs:Array Q7):
  Meets (Builtin.«enumerate.__new__» ⟨[.type "enumerate",.ref l],[]⟩) (λ_ R s=>s.heap.IsTuple l xs/\R (.ok (.ret (.ref (IC s.heap l).objs.size))) {s with heap:=Jz s.heap l}):=
 .of_wp λprog w A R s h=>by
  obtain⟨hp,g,d,tk,os⟩:=s;obtain⟨hl,h⟩:=h;have hsub:=sub_enumerate;have q1:Heap.IsTuple (Shared.heap ⟨hp,g,d,tk,os⟩) l xs:=hl
  wp_walk using wpAny_pyIter_tuple q1
  refine wpAny_stack_any λst=>wpAny_pure ?_;split
  ·rename_i c _ _ _ _ _;cases (c == Value.type "enumerate") <;> (wp_walk using wpAny_pyIter_tuple q1;exact⟨_,rfl,h⟩)
  ·wp_walk using wpAny_pyIter_tuple q1;exact⟨_,rfl,h⟩
section
variable{prog:Va}{w:Vb}{A:Vf}{E:Q7->Q8->Prop}{s:Q8}
theorem xU{b:Bool}{l:Q9}{xs:Array Q7}{Q:Q7->Q8->Prop}(h1:GS s.heap b l xs)
  (h:∀h',IsEnum h' (s.heap.objs.size+1) s.heap.objs.size 0 .none->tx h' b s.heap.objs.size l 0->(∀c o,s.heap.get? c=some o->h'.get? c=some o)->Q (.ref (s.heap.objs.size+1)) {s with heap:=h'}):
  wpAny (model prog w) A (call (.type "enumerate") [.ref l]) Q E s:=by
 cases b with
 |true=>exact call_enumerate_list h1 λh' a1 a2 _ a4=>h h' a1 a2 a4
 |false=>
  refine callType_new F.called_enumerate (by decide) (F.typeCall_enumerate_1 _) (F.newCall_enumerate_1 _) (λobj=>F.args_object_init_2 obj _) F.entry_enumerate_new (p7 l xs) ⟨h1,?_⟩
  have n1:(IC s.heap l).objs.size=s.heap.objs.size+1:=size_push ..;have g2:(Jz s.heap l).get? (IC s.heap l).objs.size=some _:=get?_push_size _ rfl;have g1:(Jz s.heap l).get? s.heap.objs.size=some _:=get?_push_of_some _ (get?_push_size _ rfl);show _/\_;rw[n1] at g2;rw[n1];exact⟨⟨_,g2,rfl⟩,h _ g2 ⟨_,g1,rfl,rfl⟩ λc o x=>get?_push_of_some _ (get?_push_of_some _ x)⟩
end
section
variable{X:Cx}
theorem Ar:bootBuiltins "enumerate" = some (.type "enumerate"):=by decide +kernel
def Gn(K:Frag)(ta:TA):TI:=λσ H R=>ta σ H λvs H1=>∃b l,vs=[.ref l]/\(∃xs,nr K H1 b l xs)/\R (JI K b l) H1
theorem Dx{a:Vd}{ta:TA}{p pos:Pos}{elts:List Vd}{kt:Nat}{tp:Pos}(hg:Gl X "enumerate")(hm:X.mg "enumerate" = none)(ha:PA X [a] ta)(hs:starEach [a] X.env=[(false,eval a X.env)]:=by rfl):
  PI X (.Tuple elts kt tp) (.Call (.Name "enumerate" p) [a] [] pos) (Gn X.K ta):=by
 intro pins s σ H R I h;refine Call_ (jH I hg hm Ar (PyProof.Rows.callWith_type1 (cA (ha pos pins s σ H _ I h) λus s1 ⟨vs,H1,I1,r1,b,l,e,⟨xs,q1⟩,q⟩=>?_) hs rfl));subst e;obtain⟨u,rfl,r2⟩:=fK r1;obtain rfl:u=Value.ref l:=r2;obtain⟨t1,_,p1,lt1⟩:=I1.seqX q1;refine xU p1 λh' z1 j1 kp=>?_;show wpAny _ _ (pyIter (.ref (s1.heap.objs.size+1))) _ _ _;refine wpAny_pyIter_enum z1 ?_;refine⟨_,_,_,_,H1,rfl,I1.kept (t':=s1.toks) kp,zv b (s1.heap.objs.size+1) s1.heap.objs.size l (Nat.succ_ne_self _) (ne_of_lt (lt_succ_of_lt lt1)) (ne_of_lt lt1),⟨⟨_,z1⟩,j1⟩,λc hc=>?_,q⟩;have hle:s1.heap.objs.size<=c:=by
  have:c=s1.heap.objs.size+1\/c=s1.heap.objs.size:=by simpa using hc
  rcases this with rfl|rfl
  ·exact le_add_right _ _
  ·exact le_refl _
 exact I1.fpOk hle (I1.hok.fresh hle)
end
end L2
namespace L3
open PySem PySem.Spec PyProof.Rows L2
section
variable{X:Cx}{Γ:Ct}{W:XW}
theorem lO{K:Frag}{Hx Hy:Hp}{bb:Bool}{l:Q9}{zs:List V}(k:aj Hx Hy)(s:nr K Hx bb l zs):nr K Hy bb l zs:=by
 cases bb with
 |true=>exact aj.seq k s
 |false=>exact b9 k s
theorem Bv{a:Vd}{ga:ME}{p pos tp:Pos}{elts:List Vd}{kt:Nat}(hK:X.K=Γ.K)(hg:Gl X "enumerate")(hm:X.mg "enumerate" = none)(ha:PD X Γ W a ga)(hs1:starEach [a] X.env=(false,eval a X.env)::starEach [] X.env:=by rfl)(hs3:starEach [a] X.env=[(false,eval a X.env)]:=by rfl):
  AC X Γ W (.Tuple elts kt tp) (.Call (.Name "enumerate" p) [a] [] pos) (EW ga):=PI.imp (Dx hg hm (bH ha de hs1) hs3) λ_ _ σ H Q _ ⟨B0,B1,Hs,ρ,r,re,e,q⟩=>by
 refine(su re e q).mono λv H1 ⟨Hs1,d,g1,re1,rp,e1,q1⟩=>?_;have sm:=re1.b.i;have step:∀(bb:Bool)(l:Q9)(xs:List V)(ds:List D),v=.ref l->nr X.K Hs1 bb l xs->RepL Γ Hs1 ds xs->r=.ok ((List.range ds.length).zipWith (λ(i:Nat) d=>D.tup [.int i,d]) ds)->∃b l,[v]=[V.ref l]/\(∃xs,nr X.K H1 b l xs)/\Q (JI X.K b l) H1:=λbb l xs ds ev s1 rl er=>by
  subst ev er;have hlen:((List.range ds.length).zipWith (λ(i:Nat) d=>D.tup [.int i,d]) ds).length=ds.length:=by rw[length_zipWith,length_range,Nat.min_self]
  refine⟨bb,l,rfl,⟨xs,lO sm s1⟩,q1 _ Hs1 H1 (.refl sm) ⟨λi Hs3 H3 hi k1 k2=>?_,λHs3 H3 k1 k2=>?_,λi Hs3 H3 x H4 hi k1 k2 y=>?_⟩⟩
  ·rw[hlen] at hi;have i1:i<xs.length:=by rw[<-rl.length];omega
   exact⟨xs,xs[i],lO (k1.trans k2) s1,getElem?_eq_getElem i1⟩
  ·exact⟨xs,lO (k1.trans k2) s1,by rw[hlen,rl.length];exact le_refl _⟩
  ·rw[hlen] at hi;obtain⟨p,u,rfl,hp,rfl,f1⟩:=y;obtain⟨x1,e1,q1'⟩:=rl.get (getElem?_eq_getElem hi);have z1:=f1 xs (lO (k1.trans k2) s1);rw[e1] at z1;cases z1;refine⟨.tup [.int i,ds[i]],bW Hs3 p (.tup [.int i,u]),?_,.new k2 hp,?_⟩
   ·rw[List.getElem?_zipWith,getElem?_range hi,getElem?_eq_getElem hi]
   ·have k3:aj Hs3 (bW Hs3 p (.tup [.int i,u])):=bJ (k2.free hp);exact aS.mpr ⟨p,[.int i,u],rfl,.of aF,.cons (ah.mpr rfl) (.cons ((q1'.mono k1).mono k3) .nil)⟩
 cases d with
 |lst ds=>
  cases e1;obtain⟨l,xs,ev,s1,rl⟩:=aH.mp rp;rw[<-hK] at s1;exact step true l xs ds ev s1 rl rfl
 |tup ds=>
  cases e1;obtain⟨l,xs,ev,s1,rl⟩:=aS.mp rp;rw[<-hK] at s1;exact step false l xs ds ev s1 rl rfl
 |_=>cases e1
theorem Cq{d:D}{v:V}{H:Hp}(r:bI Γ H d v)(f:flat d=true):kI v=true:=by
 cases d with
 |non=>rw[bw.mp r];rfl
 |bl _=>rw[aw.mp r];rfl
 |int _=>rw[ah.mp r];rfl
 |str _=>rw[ar.mp r];rfl
 |_=>cases f
theorem Ic{d e:D}{v u:V}{H:Hp}(r1:bI Γ H d v)(r2:bI Γ H e u)(f1:flat d=true)(f2:flat e=true):CP v u=Ab d e:=by
 cases d with
 |non=>rw[bw.mp r1];cases e with
  |non=>rw[bw.mp r2];rfl
  |bl _=>rw[aw.mp r2];rfl
  |int _=>rw[ah.mp r2];rfl
  |str _=>rw[ar.mp r2];rfl
  |tup _=>cases f2
  |lst _=>cases f2
  |fn _ _=>cases f2
  |obj _ _ _=>cases f2
 |bl _=>rw[aw.mp r1];cases e with
  |non=>rw[bw.mp r2];rfl
  |bl _=>rw[aw.mp r2];rfl
  |int _=>rw[ah.mp r2];rfl
  |str _=>rw[ar.mp r2];rfl
  |tup _=>cases f2
  |lst _=>cases f2
  |fn _ _=>cases f2
  |obj _ _ _=>cases f2
 |int _=>rw[ah.mp r1];cases e with
  |non=>rw[bw.mp r2];rfl
  |bl _=>rw[aw.mp r2];rfl
  |int _=>rw[ah.mp r2];rfl
  |str _=>rw[ar.mp r2];rfl
  |tup _=>cases f2
  |lst _=>cases f2
  |fn _ _=>cases f2
  |obj _ _ _=>cases f2
 |str _=>rw[ar.mp r1];cases e with
  |non=>rw[bw.mp r2];rfl
  |bl _=>rw[aw.mp r2];rfl
  |int _=>rw[ah.mp r2];rfl
  |str _=>rw[ar.mp r2];rfl
  |tup _=>cases f2
  |lst _=>cases f2
  |fn _ _=>cases f2
  |obj _ _ _=>cases f2
 |_=>cases f1
theorem EV{x:D}{v:V}{H:Hp}(rx:bI Γ H x v)(fx:flat x=true):∀{ds:List D}{xs:List V},RepL Γ H ds xs->ds.all flat=true->xs.all kI=true/\IB v xs=wt x ds
 |[],xs,h,_=>by rw[bz.mp h];exact⟨rfl,rfl⟩
 |d::ds,xs,h,f=>by
  obtain⟨y,r,rfl,q,t⟩:=aK.mp h;rw[List.all_cons,Bool.and_eq_true] at f;obtain⟨i1,i2⟩:=EV rx fx t f.2;refine⟨by rw[List.all_cons,Cq q f.1,i1];rfl,?_⟩
  show(CP y v || IB v r)=(Ab d x || wt x ds);rw[Ic q rx f.1 fx,i2]
theorem w6{neg:Bool}{d1 d2:D}{r:R}{Hs H:Hp}{x y:V}{Q:VK}(hK:X.K=Γ.K)(sm:aj Hs H)(r1:bI Γ Hs d1 x)(r2:bI Γ Hs d2 y)(e:dIn neg d1 d2=some r)(q:RQ Γ W Hs H r Q):IA X.K neg x y H Q:=by
 have fin:∀(ds:List D)(p:Q9)(xs:List V),y=.ref p->(fJ X.K H p xs\/jS X.K H p xs)->RepL Γ Hs ds xs->(if flat d1=true/\ds.all flat=true then okB (if neg then !wt d1 ds else wt d1 ds) else none)=some r->IA X.K neg x y H Q:=λds p xs ey hq rl e=>by
  obtain⟨⟨h1,h2⟩,rfl⟩:=bL e;obtain⟨i1,i2⟩:=EV r1 h1 rl h2;refine⟨p,xs,ey,hq,Cq r1 h1,i1,?_⟩;rw[i2];exact cV sm q (aw.mpr rfl)
 cases d2 with
 |tup ds=>obtain⟨p,xs,ey,sq,rl⟩:=aS.mp r2;exact fin ds p xs ey (.inr (by rw[hK];exact b9 sm sq)) rl e
 |lst ds=>obtain⟨p,xs,ey,sq,rl⟩:=aH.mp r2;exact fin ds p xs ey (.inl (by rw[hK];exact aj.seq sm sq)) rl e
 |_=>cases e
theorem mV(hK:X.K=Γ.K):gd X (compareOp .In) (rD Γ W (dIn false)):=λpins s σ H x y v u Q I rx ry ⟨Hs,d1,d2,r,sm,r1,r2,e,q⟩=>zW pins s σ H x y v u Q I rx ry (w6 hK sm r1 r2 e q)
theorem mT(hK:X.K=Γ.K):gd X (compareOp .NotIn) (rD Γ W (dIn true)):=λpins s σ H x y v u Q I rx ry ⟨Hs,d1,d2,r,sm,r1,r2,e,q⟩=>sT pins s σ H x y v u Q I rx ry (w6 hK sm r1 r2 e q)
theorem o6(n d:Nat)(o:Option Int):HT.sIx n d o=kW n d o:=by cases o <;> rfl
theorem wb{H:Hp}{ds:List D}{xs:List V}(rl:RepL Γ H ds xs)(lo hi:Option Int):RepL Γ H (CB ds lo hi) (wa xs lo hi):=by
 unfold CB wa;rw[o6,o6,<-rl.length];exact(rl.drop _).take _
def Fo(Γ:Ct)(W:XW):V->Option Int->Option Int->Hp->VK->Prop:=λv lo hi H Q=>∃Hs d r,aj Hs H/\bI Γ Hs d v/\nh d lo hi=some r/\RQ Γ W Hs H r Q
theorem K4(hK:X.K=Γ.K):Il X (Fo Γ W):=λpins s σ H x v vl vu lo hi sl Q I rx hs pl pu ⟨Hs,d,r,sm,rp,e,q⟩=>by
 cases d with
 |tup ds=>
  obtain⟨a,xs,rfl,sq,rl⟩:=aS.mp rp;have e':(if kW ds.length 0 lo=0/\kW ds.length ds.length hi=ds.length then none else okD (.tup (CB ds lo hi)))=some r:=e;by_cases hw:kW ds.length 0 lo=0/\kW ds.length ds.length hi=ds.length
  ·rw[if_pos hw] at e';cases e'
  ·rw[if_neg hw] at e';cases e';exact Fd pins s σ H _ v vl vu lo hi sl Q I rx hs pl pu ⟨a,xs,rfl,by rw[hK];exact b9 sm sq,by rw[o6,o6,<-rl.length];exact hw,λp hp=>sG sm q (wb rl lo hi) hp⟩
 |lst ds=>
  obtain⟨a,xs,rfl,sq,rl⟩:=aH.mp rp;cases e;exact D7 pins s σ H _ v vl vu lo hi sl Q I rx hs pl pu ⟨a,xs,rfl,by rw[hK];exact aj.seq sm sq,λp hp=>o9 sm q (wb rl lo hi) hp⟩
 |_=>cases e
def tP(Γ:Ct)(W:XW)(o:Option ME):TO:=match o with
 |none=>yh
 |some g=>EI (tD Γ W g)
abbrev GT(X:Cx)(Γ:Ct)(W:XW)(e:Option Vd)(o:Option ME):Prop:=PO X e (tP Γ W o)
theorem gI:GT X Γ W none none:=Dr
theorem gH{e:Vd}{g:ME}(h:PD X Γ W e g):GT X Γ W (some e) (some g):=Dq h
theorem jX{o:Option ME}{B0 B1 Hs H:Hp}{σ:L2.St}{ρ:aA}{k:Option Int->Option R}{r:R}{Q:VK}(re:RE Γ B0 B1 Hs H σ ρ)(e:vb o ρ k=some r)(q:RQ Γ W Hs H r Q){Q':Option Int->Hp->Prop}
  (h:∀i H1 Hs1,bt Hs H Hs1 H1->RE Γ B0 B1 Hs1 H1 σ ρ->k i=some r->RQ Γ W Hs1 H1 r Q->Q' i H1):tP Γ W o σ H Q':=by
 cases o with
 |none=>exact h none H Hs (.refl re.b.i) re e q
 |some g=>
  have e':aQ (g ρ) (λd=>match d with|.int i=>k (some i)|_=>none)=some r:=e
  refine(bu re e' q).mono λv H1 ⟨Hs1,d,g1,re1,rp,e1,q1⟩=>?_;cases d with
  |int i=>exact⟨i,ah.mp rp,h (some i) H1 Hs1 g1 re1 e1 q1⟩
  |non=>cases e1
  |bl _=>cases e1
  |str _=>cases e1
  |tup _=>cases e1
  |lst _=>cases e1
  |fn _ _=>cases e1
  |obj _ _ _=>cases e1
theorem jC{e:Vd}{g:ME}{lo hi:Option Vd}{gl gh:Option ME}{pos p2:Pos}(hK:X.K=Γ.K)(he:PD X Γ W e g)(hl:GT X Γ W lo gl)(hh:GT X Γ W hi gh):PD X Γ W (.Subscript e (.Slice lo hi none p2) pos) (dt g gl gh):=
 PE.imp (v7 (K4 hK) he hl hh) λ_ _ σ H Q _ ⟨B0,B1,Hs,ρ,r,re,e,q⟩=>by
  refine(bu re e q).mono λv H1 ⟨Hs1,d,g1,re1,rp,e1,q1⟩=>?_;refine jX re1 e1 q1 λl H2 Hs2 g2 re2 e2 q2=>?_;refine jX re2 e2 q2 λu H3 Hs3 g3 re3 e3 q3=>?_;exact⟨Hs3,d,r,re3.b.i,(rp.mono g2.s).mono g3.s,e3,q3⟩
end
end L3
namespace L2
open PySem
abbrev AB(xs:Array Nat):Prop:=xs.toList.Pairwise (· < ·)
theorem o8{xs:Array Nat}(h:AB xs){i k:Nat}(hik:i<k)(hk:k<xs.size):xs[i]'(by omega)<xs[k]:=by
 have:=List.pairwise_iff_getElem.mp h i k (by simpa using(by omega:i<xs.size)) (by simpa using hk) hik
 simpa using this
theorem pL{xs:Array Nat}(h:AB xs)(j:Nat):∀(fuel lo hi:Nat),lo<=hi->hi<=xs.size->hi - lo<=fuel->(∀i (hi':i<xs.size),i<lo->xs[i]<j)->(∀i (hi':i<xs.size),hi<=i->j<=xs[i])->
  SetTable.below.go xs j fuel lo hi<=xs.size/\(∀i (hi':i<xs.size),i<SetTable.below.go xs j fuel lo hi->xs[i]<j)/\∀i (hi':i<xs.size),SetTable.below.go xs j fuel lo hi<=i->j<=xs[i]
 |0,lo,hi,h1,h2,h3,h4,h5=>by
  have e:lo=hi:=by omega
  subst e;exact⟨h2,h4,h5⟩
 |fuel+1,lo,hi,h1,h2,h3,h4,h5=>by
  unfold SetTable.below.go;by_cases hl:lo<hi
  ·rw[if_pos hl];have m1:lo<=(lo+hi) / 2:=by omega
   have m2:(lo+hi) / 2<hi:=by omega
   generalize (lo+hi) / 2=m at m1 m2;have hm:m<xs.size:=lt_of_lt_of_le m2 h2;have hg:xs.getD (m) j=xs[m]:=by simp[hm]
   dsimp only;rw[hg];by_cases hc:xs[m]<j
   ·rw[if_pos hc];refine pL h j fuel _ _ (by omega) h2 (by omega) (λi hi' hlt=>?_) h5
    by_cases e:i=m
    ·subst e;exact hc
    ·exact Nat.lt_trans (o8 h (by omega) hm) hc
   ·rw[if_neg hc];refine pL h j fuel _ _ (by omega) (by omega) (by omega) h4 (λi hi' hle=>?_)
    by_cases e:i=m
    ·subst e;omega
    ·have:=o8 h (show m<i by omega) hi';omega
  ·rw[if_neg hl];have e:lo=hi:=by omega
   subst e;exact⟨h2,h4,h5⟩
theorem ja{xs:Array Nat}(h:AB xs)(j:Nat):SetTable.below xs j<=xs.size/\(∀i (hi':i<xs.size),i<SetTable.below xs j->xs[i]<j)/\∀i (hi':i<xs.size),SetTable.below xs j<=i->j<=xs[i]:=by
 unfold SetTable.below;exact pL h j xs.size 0 xs.size (zero_le _) (le_refl _) (by omega) (λ_ _ z=>absurd z (Nat.not_lt_zero _)) (λi hi' z=>absurd hi' (by omega))
theorem y8{xs:Array Nat}(h:AB xs):SetTable.below xs 0=0:=by
 obtain⟨h1,h2,_⟩:=ja h 0;by_cases e:SetTable.below xs 0=0
 ·exact e
 ·have:=h2 0 (by omega) (by omega)
  omega
theorem y9{xs:Array Nat}(h:AB xs){i:Nat}(hi:i<xs.size):SetTable.below xs (xs[i]+1)=i+1:=by
 obtain⟨h1,h2,h3⟩:=ja h (xs[i]+1);by_cases l:SetTable.below xs (xs[i]+1)<=i
 ·have:=h3 i hi l;omega
 ·by_cases e:SetTable.below xs (xs[i]+1)=i+1
  ·exact e
  ·have hi1:i+1<xs.size:=by omega
   have a:=h2 (i+1) hi1 (by omega)
   have b:=o8 h (i:=i) (k:=i+1) (by omega) hi1
   omega
theorem kG{α:Type}(xs:Array α)(p:Nat)(x:α)(hp:p<=xs.size):(SetTable.insertAt xs p x).toList=xs.toList.take p++x::xs.toList.drop p:=by
 unfold SetTable.insertAt;simp[Array.toList_extract];rw[List.take_of_length_le (by simp)]
theorem iA{α:Type}(xs:Array α)(p:Nat)(x:α)(hp:p<=xs.size):(SetTable.insertAt xs p x).toList.Perm (x::xs.toList):=by
 rw[kG xs p x hp];refine List.perm_middle.trans ?_;rw[List.take_append_drop]
theorem kF{α:Type}(xs:Array α)(p:Nat)(x:α)(hp:p<=xs.size):(SetTable.insertAt xs p x).size=xs.size+1:=by
 rw[<-length_toList,(iA xs p x hp).length_eq];simp
structure Tb(t:SetTable)(m:Nat):Prop where
 mask:t.mask=7
 dum:t.dummies=#[]
 plain:t.plain=true
 size:t.place.size=m
 rise:AB t.place
 le:∀j∈t.place.toList,j<=7
theorem Tb.fits{t:SetTable}{m:Nat}(T:Tb t m)(hm:m<=7):t.fits m=true:=by
 unfold SetTable.fits SetTable.fill;rw[T.size,T.dum,T.mask];simp;omega
theorem Tb.notFull{t:SetTable}{m:Nat}(T:Tb t m)(hm:m<=4):t.tooFull=false:=by
 unfold SetTable.tooFull SetTable.fill;rw[T.size,T.dum,T.mask];simp;omega
theorem Tb.slot{t:SetTable}{m:Nat}(T:Tb t m)(j:Nat):(t.slot j=.empty/\j∉t.place.toList)\/(∃i,t.slot j=.live i)/\j∈t.place.toList:=by
 unfold SetTable.slot;dsimp only;by_cases h:(t.place[SetTable.below t.place j]? == some j)=true
 ·rw[if_pos h];have e:t.place[SetTable.below t.place j]?=some j:=eq_of_beq h;rw[<-getElem?_toList] at e;exact .inr ⟨⟨_,rfl⟩,List.mem_of_getElem? e⟩
 ·rw[if_neg h];have hd:SetTable.has t.dummies j=false:=by rw[T.dum];rfl
  rw[if_neg (by rw[hd];exact Bool.false_ne_true)]
  refine .inl ⟨rfl,λhm=>h ?_⟩;obtain⟨i,hi,e⟩:=List.getElem_of_mem hm;have hi':i<t.place.size:=by simpa using hi
  have e':t.place[i]=j:=by simpa using e
  obtain⟨h1,h2,h3⟩:=ja T.rise j;have hb:SetTable.below t.place j=i:=by
   by_cases l:SetTable.below t.place j<=i
   ·by_cases l2:SetTable.below t.place j=i
    ·exact l2
    ·have hlt:SetTable.below t.place j<t.place.size:=by omega
     have a:=h3 _ hlt (le_refl _);have b:=o8 T.rise (show SetTable.below t.place j<i by omega) hi'
     omega
   ·have:=h2 i hi' (by omega);omega
  rw[hb,Array.getElem?_eq_getElem hi',e'];exact beq_self_eq_true _
theorem y7{h:Int}(h0:0<=h)(h1:h<32):SetTable.bits h=h.toNat:=by
 unfold SetTable.bits;rw[Int.emod_eq_of_lt h0 (by omega)]
theorem E6{l:List Nat}{a b c d:Nat}(hl:l.length<=3)(h1:a∈l)(h2:b∈l)(h3:c∈l)(h4:d∈l)(n:[a,b,c,d].Nodup):False:=by
 have hs:[a,b,c,d] ⊆ l:=by
  intro x hx;simp at hx;rcases hx with rfl|rfl|rfl|rfl <;> assumption
 have:=List.Nodup.length_le_of_subset n hs;simp at this;omega
theorem Tb.free{t:SetTable}{m:Nat}(T:Tb t m)(hm:m<=3){h:Int}(h0:0<=h)(h1:h<32):∃j,t.freeSlot h=some (j,false)/\j<=7/\j∉t.place.toList:=by
 obtain⟨n,rfl⟩:∃n:Nat,h=n:=⟨h.toNat,by omega⟩
 have hb:SetTable.bits (n:Int)=n:=by rw[y7 h0 h1];rfl
 have hn:n<32:=by omega
 have hl:t.place.toList.length<=3:=by rw[length_toList,T.size];exact hm
 have run:∀(i:Nat),SetTable.runEnd t.mask i=i\/7<i:=λi=>by
  unfold SetTable.runEnd;rw[T.mask];by_cases q:i+9<=7
  ·omega
  ·rw[if_neg q];exact .inl rfl
 have hrun:∀i,SetTable.runEnd t.mask i - i=0:=λi=>by
  unfold SetTable.runEnd;rw[T.mask,if_neg (by omega)]
  omega
 have adv:∀(i p:Nat),p / 32=0->t.advance ⟨i,0,i,p,none⟩=⟨(i * 5+1) % 8,0,(i * 5+1) % 8,0,none⟩:=λi p hp=>by
  unfold SetTable.advance SetTable.leap;rw[if_neg (lt_irrefl 0)];dsimp only;rw[hp,hrun,T.mask]
 have step:∀(fuel i p:Nat),p / 32=0->(∃r,SetTable.probe.go t (λ_=>(n:Int)+1) n (fuel+1) ⟨i,0,i,p,none⟩=some r/\r=.empty i none/\i∉t.place.toList)\/(i∈t.place.toList/\SetTable.probe.go t (λ_=>(n:Int)+1) n (fuel+1) ⟨i,0,i,p,none⟩=SetTable.probe.go t (λ_=>(n:Int)+1) n fuel ⟨(i * 5+1) % 8,0,(i * 5+1) % 8,0,none⟩):=λfuel i p hp=>by
  rcases T.slot i with⟨e,ni⟩|⟨⟨k,e⟩,hi⟩
  ·refine .inl ⟨.empty i none,?_,rfl,ni⟩;unfold SetTable.probe.go;dsimp only;rw[e]
  ·refine .inr ⟨hi,?_⟩
   conv=>lhs;unfold SetTable.probe.go
   dsimp only;rw[e];dsimp only;rw[if_neg (by simp;omega),adv i p hp]
 have hps:t.probeStart (n:Int)=⟨n % 8,0,n % 8,n,none⟩:=by
  unfold SetTable.probeStart;dsimp only;rw[hb,hrun,T.mask]
 have fin:∀{j:Nat}{r:SetTable.Met},j<8->SetTable.probe.go t (λ_=>(n:Int)+1) n (10 * SetTable.turns t.mask) ⟨n % 8,0,n % 8,n,none⟩=some r->r=.empty j none->j∉t.place.toList->∃j,t.freeSlot (n:Int)=some (j,false)/\j<=7/\j∉t.place.toList:=λ{j r} hj e er nj=>by
  refine⟨j,?_,Nat.le_of_lt_succ hj,nj⟩;unfold SetTable.freeSlot SetTable.probe;rw[hps,e,er];rfl
 have hf:10 * SetTable.turns t.mask=216+1+1+1+1:=by unfold SetTable.turns;rw[T.mask]
 rw[hf] at fin;have h8:n % 8<8:=Nat.mod_lt _ (by decide)
 rcases step (216+1+1+1) (n % 8) n (by omega) with⟨r,e,er,nj⟩|⟨i1,e1⟩
 ·exact fin h8 e er nj
 rcases step (216+1+1) ((n % 8 * 5+1) % 8) 0 rfl with⟨r,e,er,nj⟩|⟨i2,e2⟩
 ·exact fin (Nat.mod_lt _ (by decide)) (e1.trans e) er nj
 rcases step (216+1) (((n % 8 * 5+1) % 8 * 5+1) % 8) 0 rfl with⟨r,e,er,nj⟩|⟨i3,e3⟩
 ·exact fin (Nat.mod_lt _ (by decide)) ((e1.trans e2).trans e) er nj
 rcases step 216 ((((n % 8 * 5+1) % 8 * 5+1) % 8 * 5+1) % 8) 0 rfl with⟨r,e,er,nj⟩|⟨i4,e4⟩
 ·exact fin (Nat.mod_lt _ (by decide)) (((e1.trans e2).trans e3).trans e) er nj
 exact(E6 hl i1 i2 i3 i4 ((by decide:∀m<8,[m,(m * 5+1) % 8,((m * 5+1) % 8 * 5+1) % 8,(((m * 5+1) % 8 * 5+1) % 8 * 5+1) % 8].Nodup) _ h8)).elim
theorem Tb.put{t:SetTable}{m:Nat}(T:Tb t m){j:Nat}(hj:j<=7)(nj:j∉t.place.toList):Tb (t.put j).1 (m+1)/\(t.put j).2<=m/\(t.put j).1.led=t.led:=by
 obtain⟨h1,h2,h3⟩:=ja T.rise j;have hd:SetTable.has t.dummies j=false:=by rw[T.dum];rfl
 have hz:SetTable.below t.place j<=m:=by rw[<-T.size];exact h1
 unfold SetTable.put;dsimp only;rw[if_neg (by rw[hd];exact Bool.false_ne_true)]
 refine⟨⟨T.mask,T.dum,T.plain,?_,?_,λk hk=>?_⟩,hz,rfl⟩
 ·show(SetTable.insertAt t.place (SetTable.below t.place j) j).size=_;rw[kF _ _ _ h1,T.size]
 ·show(SetTable.insertAt t.place (SetTable.below t.place j) j).toList.Pairwise (· < ·);rw[kG _ _ _ h1];refine List.pairwise_append.mpr ⟨List.Pairwise.sublist (List.take_sublist _ _) T.rise,pairwise_cons.mpr ⟨λk hk=>?_,List.Pairwise.sublist (List.drop_sublist _ _) T.rise⟩,λa ha b hb=>?_⟩
  ·obtain⟨i,hi,e⟩:=List.getElem_of_mem hk;rw[List.getElem_drop] at e;rw[length_drop,length_toList] at hi;have a:=h3 (SetTable.below t.place j+i) (by omega) (by omega)
   have e':t.place[SetTable.below t.place j+i]'(by omega)=k:=by simpa using e
   have:k≠j:=λz=>nj (by rw[<-z];exact List.mem_of_mem_drop hk)
   omega
  ·obtain⟨i,hi,e⟩:=List.getElem_of_mem ha;rw[List.getElem_take] at e;rw[length_take,length_toList] at hi;have a1:=h2 i (by omega) (by omega)
   have e':t.place[i]'(by omega)=a:=by simpa using e
   rcases mem_cons.mp hb with rfl|hb
   ·omega
   ·obtain⟨i2,hi2,e2⟩:=List.getElem_of_mem hb;rw[List.getElem_drop] at e2;rw[length_drop,length_toList] at hi2;have a2:=h3 (SetTable.below t.place j+i2) (by omega) (by omega)
    have e3:t.place[SetTable.below t.place j+i2]'(by omega)=b:=by simpa using e2
    omega
 ·have hk':k∈(SetTable.insertAt t.place (SetTable.below t.place j) j).toList:=hk;have:=(iA _ _ j h1).mem_iff.mp hk';rcases mem_cons.mp this with rfl|z
  ·exact hj
  ·exact T.le k z
theorem Tb.lay{t:SetTable}{m:Nat}(T:Tb t m)(hm:m<=3){h:Int}(h0:0<=h)(h1:h<32)(es:Array (Int×Q7))(he:es.size=m)(x:Q7):∃es' t',layNew t es h x=(es',t',false,false)/\Tb t' (m+1)/\t'.led=t.led/\es'.toList.Perm ((h,x)::es.toList)/\es'.size=m+1:=by
 obtain⟨j,ej,hj,nj⟩:=T.free hm h0 h1;obtain⟨T',hp,hled⟩:=T.put hj nj;have hsz:(SetTable.insertAt es (t.put j).2 (h,x)).size=m+1:=by rw[kF _ _ _ (by omega),he]
 have hfit:=T'.fits (by omega)
 refine⟨SetTable.insertAt es (t.put j).2 (h,x),(t.put j).1,?_,T',hled,iA _ _ _ (by omega),hsz⟩
 unfold layNew;rw[ej];dsimp only;rw[hsz,hfit];unfold SetTable.orStandIn;rw[hfit];rfl
theorem qR{α:Type}(next:Nat->Nat):∀(fuel k:Nat)(left:List α)(out:Array α),left.length=fuel->(pickOrder.go next fuel k left out).toList.Perm (out.toList++left)
 |0,k,left,out,h=>by
  have:left=[]:=List.length_eq_zero_iff.mp h;subst this;unfold pickOrder.go;simp
 |fuel+1,k,left,out,h=>by
  unfold pickOrder.go;have hlt:next k % left.length<left.length:=Nat.mod_lt _ (by omega)
  rw[getElem?_eq_getElem hlt];dsimp only;refine(qR next fuel (k+1) _ _ (by rw[List.length_eraseIdx_of_lt hlt];omega)).trans ?_
  rw[Array.toList_push,append_assoc];refine List.Perm.append_left _ ?_;have e:left=left.take (next k % left.length)++left[next k % left.length]::left.drop (next k % left.length+1):=by
   rw[<-List.drop_eq_getElem_cons hlt,List.take_append_drop]
  rw[List.eraseIdx_eq_take_drop_succ]
  conv=>rhs;rw[e]
  rw[List.singleton_append];exact List.perm_middle.symm
theorem oQ{α:Type}(next:Nat->Nat)(xs:Array α):(pickOrder next xs).toList.Perm xs.toList:=by
 have:=qR next xs.size 0 xs.toList #[] (by simp)
 simpa [pickOrder] using this
end L2
namespace L2
open PySem PySem.Spec PyProof.Rows
inductive EsK:List (Int×Q7)->List Int->Prop
 |nil:EsK [] []
 |cons (k:Int) (tk:Tok) {es ks}:EsK es ks->EsK ((hashInt k,.int k tk)::es) (k::ks)
theorem EsK.length{es:List (Int×Q7)}{ks:List Int}(h:EsK es ks):es.length=ks.length:=by
 induction h with
 |nil=>rfl
 |cons k tk _ ih=>rw[length_cons,length_cons,ih]
theorem EsK.perm{es es':List (Int×Q7)}(p:es'.Perm es):∀{ks:List Int},EsK es ks->∃ks',EsK es' ks'/\ks'.Perm ks:=by
 have q:=p.symm;clear p
 induction q with
 |nil=>intro ks h;cases h;exact⟨[],.nil,.refl _⟩
 |cons x _ ih=>
  intro ks h;cases h with
  |cons k tk t=>obtain⟨ks',e,p⟩:=ih t;exact⟨k::ks',.cons k tk e,p.cons k⟩
 |swap x y l=>
  intro ks h;cases h with
  |cons k tk t=>cases t with
   |cons k2 tk2 t2=>exact⟨k2::k::_,.cons k2 tk2 (.cons k tk t2),List.Perm.swap _ _ _⟩
 |trans _ _ ih1 ih2=>
  intro ks h;obtain⟨k1,e1,p1⟩:=ih1 h;obtain⟨k2,e2,p2⟩:=ih2 e1;exact⟨k2,e2,p2.trans p1⟩
theorem EsK.elems{prog:Va}{w:Vb}{es:List (Int×Q7)}{ks:List Int}(h:EsK es ks):ElemsOf (intKind prog w) es:=by
 induction h with
 |nil=>intro e he;cases he
 |cons k tk _ ih=>
  intro e he;rcases mem_cons.mp he with rfl|he
  ·exact⟨⟨k,by simp[intKind,Value.isInt],rfl⟩,rfl⟩
  ·exact ih e he
theorem EsK.find{es:List (Int×Q7)}{ks:List Int}(h:EsK es ks)(k:Int):(es.findIdx? λe=>Value.isInt k e.2).isSome=decide (k∈ks):=by
 induction h with
 |nil=>rfl
 |cons k' tk _ ih=>
  rw[List.findIdx?_cons];by_cases e:k=k'
  ·subst e;simp[Value.isInt]
  ·have:Value.isInt k (Value.int k' tk)=false:=by simp[Value.isInt,Ne.symm e,e]
   simp only[this];rw[if_neg Bool.false_ne_true,Option.isSome_map,ih];simp[e]
theorem EsK.ints{es:List (Int×Q7)}{ks:List Int}(h:EsK es ks):IntsAre (es.map (·.2)) ks:=by
 induction h with
 |nil=>exact .nil
 |cons k tk _ ih=>exact .cons k tk ih
def SetX(w:Vb)(h:Vc)(a:Q9)(ks:List Int):Prop:=∃o es ep t ks',h.get? a=some o/\o.ExactSet/\o.data=.set es ep t/\EsK es.toList ks'/\ks'.Perm ks/\Tb t es.size/\t.led=!w.params.followText "set-order"
theorem SetX.at{w:Vb}{h h':Vc}{a:Q9}{ks:List Int}(S:SetX w h a ks)(k:∀o,h.get? a=some o->h'.get? a=some o):SetX w h' a ks:=by
 obtain⟨o,es,ep,t,ks',ho,r⟩:=S;exact⟨o,es,ep,t,ks',k o ho,r⟩
theorem Cf:∀n:Fin 32,hashInt ((n.val:Nat):Int)=((n.val:Nat):Int):=by decide +kernel
theorem pq{k:Int}(h0:0<=k)(h1:k<32):hashInt k=k:=by
 have h:=Cf ⟨k.toNat,by omega⟩
 rwa[show(((⟨k.toNat,by omega⟩:Fin 32).val:Nat):Int)=k from Int.toNat_of_nonneg h0] at h
section
variable{prog:Va}{w:Vb}{A:Vf}{E:Q7->Q8->Prop}{s:Q8}
theorem Bb{a:Q9}{ks:List Int}{k:Int}{tk:Tok}{Q:Bool->Q8->Prop}(S:SetX w s.heap a ks)(h0:0<=k)(h1:k<32)(hl:ks.length<=4)(hl2:k∉ks->ks.length<=3)
  (h:∀h' b,Heap.SameBut a s.heap h'->SetX w h' a (if k∈ks then ks else k::ks)->Q b {s with heap:=h',toks:=s.toks+1}):wpAny (model prog w) A (setAdd a (.int k tk)) Q E s:=by
 obtain⟨o,es,ep,t,ks',ho,hex,hd,hes,hp,T,hled⟩:=S;have hsz:es.size=ks.length:=by rw[<-length_toList,hes.length,hp.length_eq]
 have hf:=T.fits (by omega)
 have hel:ElemsOf (intKind prog w) es.toList:=hes.elems;have hkey:(intKind prog w).is k (.int k tk)=true:=by simp[intKind,Value.isInt]
 unfold setAdd;refine wpAny_holding (wpAny_bind ((intKind prog w).pyHash hkey ?_));unfold setAddHashed setAddHashedIn;refine wpAny_holding (wpAny_bind (wpAny_setState_of ho hd hf ?_));dsimp only;rw[byScan_of (knd:=intKind prog w) rfl (by unfold scanBound;omega) hel,if_pos rfl]
 unfold setAddByScan;refine wpAny_bind (wpAny_bind (wpAny_rule (wpAny_bind (wpAny_setScan_of (s:={s with toks:=s.toks+1}) hkey ho hd hf hel ?_))));have hfi:=hes.find k;have hfi':∀r,es.toList.findIdx? (λe=>(intKind prog w).is k e.2)=r->r.isSome=decide (k∈ks'):=λr e=>by rw[<-e];exact hfi
 have hmem:k∈ks'↔k∈ks:=hp.mem_iff;cases hr:es.toList.findIdx? (λe=>(intKind prog w).is k e.2) with
 |some j=>
  have hk:k∈ks:=hmem.mp (by have:=hfi' _ hr;simpa using this.symm)
  dsimp only;refine wpAny_pure (wpAny_pure (h s.heap false (Heap.SameBut.refl a s.heap) ?_));rw[if_pos hk];exact⟨o,es,ep,t,ks',ho,hex,hd,hes,hp,T,hled⟩
 |none=>
  have hk:k∉ks:=λz=>by have:=hfi' _ hr;rw[decide_eq_true (hmem.mpr z)] at this;cases this
  have h3:=hl2 hk;obtain⟨es',t',el,T',hl',hpm,hsz'⟩:=T.lay (by omega) (h:=hashInt k) (by rw[pq h0 h1];exact h0) (by rw[pq h0 h1];exact h1) es rfl (.int k tk)
  have el':layNew t es ((intKind prog w).hash k) (.int k tk)=(es',t',false,false):=el;dsimp only;rw[el'];dsimp only;refine wpAny_bind ?_;show wpAny _ _ (pure ()) _ _ _;refine wpAny_pure ?_;rw[T'.plain,if_pos rfl,hashByValue_scannable 8 rfl];refine wpAny_bind (wpAny_pure ?_);rw[if_pos (show plainKind (Value.int k tk)=true from rfl)];refine wpAny_bind (wpAny_storeSet_of (s:={s with toks:=s.toks+1}) ho hd ?_ (by rw[hsz',sizeLine_eq];omega))
  rw[T'.notFull (by omega)]
  simp only[Bool.not_false,Bool.and_false,Bool.false_eq_true,if_false];refine wpAny_pure (wpAny_pure (h _ true (Heap.SameBut.update s.heap a (Obj.putSet es' t')) ?_));rw[if_neg hk];obtain⟨ks2,e2,p2⟩:=EsK.perm hpm (.cons k tk hes);have hg:(s.heap.update a (Obj.putSet es' t')).get? a=some {o with data:=.set es' (ep+1) t'}:=by
   have z:=Heap.get?_update_self (Obj.putSet es' t') ho (by rw[putSet_of es' t' hd];rfl)
   rw[putSet_of es' t' hd] at z;exact z
  exact⟨_,es',ep+1,t',ks2,hg,hex,rfl,e2,p2.trans (hp.cons k),by rw[hsz'];exact T',by rw[hl'];exact hled⟩
end
structure ED(prog:Va)(w:Vb)(ns:List Int)(SY:Vc->Q9->List Int->Prop):Prop where
 stay:∀{h h':Vc}{a:Q9}{ks:List Int},SY h a ks->(∀o,h.get? a=some o->h'.get? a=some o)->SY h' a ks
 there:∀{h:Vc}{a:Q9}{ks:List Int},SY h a ks->∃o,h.get? a=some o
 fresh:∀{h:Vc}{a:Q9},h.get? a=some {cls:=.type "set",dict:=none,data:=.set #[] 0 (.fresh 0 0 (!w.params.followText "set-order"))}->SY h a []
 add:∀{A:Vf}{E:Q7->Q8->Prop}{s:Q8}{a:Q9}{ks:List Int}{k:Int}{tk:Tok}{Q:Bool->Q8->Prop},SY s.heap a ks->k∈ns->ks.length<ns.length->
  (∀h' b,Heap.SameBut a s.heap h'->SY h' a (if k∈ks then ks else k::ks)->Q b {s with heap:=h',toks:=s.toks+1})->wpAny (model prog w) A (setAdd a (.int k tk)) Q E s
section
variable{prog:Va}{w:Vb}{A:Vf}{E:Q7->Q8->Prop}{s:Q8}{SY:Vc->Q9->List Int->Prop}
theorem zA{R:Result->Q8->Prop}{S I l:Q9}{items:Array Q7}{ns:List Int}(hh:A.in1.handled=none)(hli:l≠I)(hSI:S≠I)(hSl:S≠l)(hi:IntsAre items.toList ns)(G:ED prog w ns SY):
  ∀(k i:Nat)(s:Q8)(ks:List Int),items.size - i=k->i<=items.size->s.heap.IsListIter I l i->s.heap.IsList l items->SY s.heap S ks->ks.length<=i->(∀n,n∈ks↔n∈ns.take i)->ks.Nodup->
   (∀h' tk ks',(∀b o,b≠S->b≠I->s.heap.get? b=some o->h'.get? b=some o)->SY h' S ks'->(∀n,n∈ks'↔n∈ns)->ks'.Nodup->R (.ok (.ret .none)) {s with heap:=h',toks:=tk})->
   codeAny (model prog w) A (.builtin "set.update.loop" ⟨[.ref S,.ref I],[]⟩) R s:=by
 have hlen:items.size=ns.length:=by rw[<-length_toList];exact hi.length
 have W:=Walks.list (prog:=prog) (w:=w) hh I l hli items;intro k
 induction k with
 |zero=>
  intro i s ks hk hile st hl S1 hkl hm nd hR;obtain rfl:i=items.size:=by omega
  refine codeAny_builtin PyProof.Rows.F.entry_set_update_loop ?_;rw[Around.under_plainId PyProof.Rows.F.plain_set_update_loop _];refine wpAny_bind (m:=pyNext (.ref I)) (W.done s _ _ ⟨st,hl⟩ λh' tk kp=>?_);refine wpAny_pure (hR h' tk ks (λb o _ hb e=>kp b o (by simpa using hb) e) (G.stay S1 λo e=>kp S o (by simpa using hSI) e) (λn=>?_) nd)
  rw[hm n,hlen,take_length]
 |succ k ih=>
  intro i s ks hk hile st hl S1 hkl hm nd hR;have hlt:i<items.size:=by omega
  refine codeAny_builtin PyProof.Rows.F.entry_set_update_loop ?_;rw[Around.under_plainId PyProof.Rows.F.plain_set_update_loop _];refine wpAny_bind (m:=pyNext (.ref I)) (W.item i s _ _ hlt ⟨st,hl⟩ λv h' tk hv st' kp=>?_);obtain⟨t,rfl⟩:=PyProof.Rows.IntsAre.int_at hi i v (by rw[getElem?_toList];exact hv)
  have hmem:ns.getD i 0∈ns:=by rw[getD_eq_getElem?_getD,getElem?_eq_getElem (by omega)];exact getElem_mem _
  have S2:SY h' S ks:=G.stay S1 λo e=>kp S o (by simpa using hSI) e
  refine wpAny_bind (m:=holding _ _) (wpAny_holding (G.add (s:={s with heap:=h',toks:=tk}) S2 hmem (by omega) λh2 b sb S3=>?_))
  refine wpAny_pure ⟨plainId_quiet PyProof.Rows.F.plain_set_update_loop _,ih (i+1) _ _ (by omega) hlt ?_ ?_ S3 ?_ ?_ ?_ λh3 tk3 ks3 kp3 S4 m4 n4=>?_⟩
  ·exact st'.1.extBut sb.extBut (Ne.symm hSI)
  ·exact st'.2.extBut sb.extBut (Ne.symm hSl)
  ·split
   ·omega
   ·rw[length_cons];omega
  ·intro n;have htake:ns.take (i+1)=ns.take i++[ns.getD i 0]:=by
    rw[List.take_add_one,getElem?_eq_getElem (by omega),getD_eq_getElem?_getD,getElem?_eq_getElem (by omega)]
    rfl
   rw[htake,mem_append,mem_singleton,<-hm n];split
   ·rename_i hin;constructor
    ·exact .inl
    ·rintro (z|rfl)
     ·exact z
     ·exact hin
   ·rw[mem_cons,or_comm]
  ·split
   ·exact nd
   ·rename_i hin;exact nodup_cons.mpr ⟨hin,nd⟩
  ·refine hR h3 tk3 ks3 (λb o hb1 hb2 e=>kp3 b o hb1 hb2 (sb.extBut b o hb1 (kp b o (by simpa using hb2) e))) S4 m4 n4
theorem Ba(a:Q7){Q₁:Q7->Q8->Prop}(h:Q₁ (.ref s.heap.objs.size) {s with heap:=s.heap.push {cls:=.type "set",dict:=none,data:=.set #[] 0 (.fresh 0 0 (!w.params.followText "set-order"))}}):
  codeAny (model prog w) A (.call (.builtin "set.__new__") ⟨[.type "set",a],[]⟩) (wants Q₁ E) s:=by
 refine codeAny_of_tree (wpAny_bind (m:=checkBuiltinCall "set.__new__" ⟨[.type "set",a],[]⟩) (wpAny_of_eq (PySem.F.newCall_set_1 a) (wpAny_pure ⟨plainId_quiet PySem.F.plain_set_new _,codeAny_builtin PySem.F.entry_set_new ?_⟩)));rw[Around.under_plainId PySem.F.plain_set_new _];unfold Builtin.«set.__new__» Builtin.Frozenset.newClass;have hsub:=sub_set_self;obtain⟨hp,g,d,tk,os⟩:=s;dsimp only;wp_walk;refine wpAny_askSetting (wpAny_pure ?_);dsimp only;simp only[newObj];exact wpAny_bind (wpAny_alloc (wpAny_pure (wpAny_pure h)))
set_option maxHeartbeats 4000000 in
theorem An{l:Q9}{items:Array Q7}{ns:List Int}{Q:Q7->Q8->Prop}(hh:A.handled=none)(hl:s.heap.IsList l items)(hi:IntsAre items.toList ns)(G:ED prog w ns SY)
  (h:∀(h':Vc)(tk:Nat)(ks:List Int),SY h' s.heap.objs.size ks->(∀n,n∈ks↔n∈ns)->ks.Nodup->(∀b o,s.heap.get? b=some o->h'.get? b=some o)->Q (.ref s.heap.objs.size) {s with heap:=h',toks:=tk}):
  wpAny (model prog w) A (call (.type "set") [.ref l]) Q E s:=by
 obtain⟨c,tl,hmro⟩:=PySem.F.called_set.mro;have hmade:=PySem.F.called_set.made;have hsub:=PySem.F.called_set.sub;refine wpAny_call (codeAny_of_tree ?_);show wpAny _ _ (callAny (.type "set") _) _ _ _;refine wpAny_pure ⟨Code.quiet_builtin _ (by decide +kernel),codeAny_builtin PySem.F.entry_type_call ?_⟩
 rw[Around.under_plain (weight_type_call_type "set" [.ref l] []) rfl];have h1:=PySem.F.called_set.notType;have h2:=PySem.F.called_set.canCreate;have hct:=PySem.F.typeCall_set_1 (.ref l)
 repeat (any_goals (first|assumption|wp_step))
 generalize hO:({cls:=.type "set",dict:=none,data:=.set #[] 0 (.fresh 0 0 (!w.params.followText "set-order"))}:Obj)=O0;refine codeAny_mono (Ba (.ref l) (E:=E) (Q₁:=λobj s₁=>obj=.ref s.heap.objs.size/\s₁={s with heap:=s.heap.push O0}) (by rw[hO];exact⟨rfl,rfl⟩)) λr s₁ hr1=>?_
 cases r with
 |error e=>exact hr1
 |ok fl=>cases fl with
  |ret obj=>
   obtain⟨rfl,rfl⟩:=hr1;have hS:(s.heap.push O0).get? s.heap.objs.size=some O0:=get?_push_size _ (by rw[<-hO];rfl)
   have hT:Shared.TypeIs {s with heap:=s.heap.push O0} (.ref s.heap.objs.size) "set" := ⟨_,hS,by rw[<-hO]⟩
   have hli:=PySem.F.called_set.init.lookup;have hbi:=PySem.F.called_set.init.bind (.ref s.heap.objs.size)
   repeat (any_goals (first|assumption|wp_step))
   refine codeAny_mono (codeAny_call_builtin (R:=wants (λr s₂=>r=.none/\∃h' tk ks,s₂={s with heap:=h',toks:=tk}/\SY h' s.heap.objs.size ks/\(∀n,n∈ks↔n∈ns)/\ks.Nodup/\∀b o,s.heap.get? b=some o->h'.get? b=some o) E) PySem.F.called_set.init.plain PySem.F.entry_set_init (check_set_init_1 hT ?_)) λr₂ s₂ hr₂=>?_
   ·obtain⟨⟨oc,od,odt,osl⟩,hol,hcl,nl,hdl⟩:=hl
    replace hcl:oc=.type "list" := hcl
    replace hdl:odt=.seq items nl:=hdl
    subst hcl hdl;have hol':(s.heap.push O0).get? l=some _:=get?_push_of_some _ hol;have hsls:=PySem.F.sub_list_set;have hslf:=PySem.F.sub_list_frozenset;have hne:(Value.type "list" == Value.type "dict")=false:=by decide
    have hl1:(s.heap.push O0).IsList l items:=⟨_,hol',rfl,nl,rfl⟩;have hlS:l<s.heap.objs.size:=lt_size hol;have hS0:(s.heap.push O0).get? s.heap.objs.size=some {cls:=.type "set",dict:=none,data:=.set #[] 0 (.fresh 0 0 (!w.params.followText "set-order"))}:=by rw[hO];exact hS
    unfold Builtin.«set.__init__» noKeywords Builtin.Frozenset.updateFrom;generalize hPI:pyIter=PI;subst hO;wp_walk;subst hPI;refine wpAny_pyIter_list hl1 (wpAny_bind (wpAny_runValue ?_));have n1:(s.heap.push {cls:=.type "set",dict:=none,data:=.set #[] 0 (.fresh 0 0 (!w.params.followText "set-order"))}).objs.size=s.heap.objs.size+1:=size_push ..;have hit:((s.heap.push {cls:=.type "set",dict:=none,data:=.set #[] 0 (.fresh 0 0 (!w.params.followText "set-order"))}).push {cls:=.type "list_iterator",data:=.fields #[.ref l,.int 0 0]}).get? (s.heap.objs.size+1)=some {cls:=.type "list_iterator",data:=.fields #[.ref l,.int 0 0]}:=by rw[<-n1];exact get?_push_size _ rfl
    rw[n1];refine zA (I:=s.heap.objs.size+1) (by simp[hh]) (ne_of_lt (lt_succ_of_lt hlS)) (ne_of_lt (Nat.lt_succ_self _)) (ne_of_gt hlS) hi G (items.size - 0) 0 _ [] rfl (zero_le _) ⟨_,hit,rfl,rfl⟩ (hl1.push _) (G.fresh (get?_push_of_some _ hS0)) (le_refl _) (λn=>by simp) .nil λh' tk ks kp S1 m1 nd=>?_
    refine wpAny_pure (wpAny_pure ⟨rfl,h',tk,ks,rfl,S1,m1,nd,λb o e=>?_⟩);have hb:=lt_size e;exact kp b o (ne_of_lt hb) (ne_of_lt (lt_succ_of_lt hb)) (get?_push_of_some _ (get?_push_of_some _ e))
   ·cases r₂ with
    |error e=>exact hr₂
    |ok fl₂=>cases fl₂ with
     |ret r=>
      obtain⟨rfl,h',tk,ks,rfl,S1,m1,nd,kp⟩:=hr₂
      repeat (any_goals (first|assumption|wp_step))
      exact h _ _ ks S1 m1 nd kp
     |_=>exact hr₂.elim
  |_=>exact hr1.elim
end
theorem wJ{w:Vb}{h:Vc}{a:Q9}(e:h.get? a=some {cls:=.type "set",dict:=none,data:=.set #[] 0 (.fresh 0 0 (!w.params.followText "set-order"))}):SetX w h a []:=
 ⟨_,#[],0,_,[],e,⟨rfl,rfl,rfl⟩,rfl,.nil,.refl _,⟨rfl,rfl,rfl,rfl,.nil,λj hj=>by cases hj⟩,rfl⟩
theorem Ff{prog:Va}{w:Vb}{ns:List Int}(hr:∀n∈ns,0<=n/\n<32)(h4:ns.length<=4):ED prog w ns (SetX w) where
 stay:=SetX.at
 there:=λ⟨o,_,_,_,_,e,_⟩=>⟨o,e⟩
 fresh:=wJ
 add:=λS hk hl h=>Bb S (hr _ hk).1 (hr _ hk).2 (by omega) (λ_=>by omega) h
theorem iE:Slot "set_iterator" "__next__" "set_iterator.__next__" := .of (owner := "set_iterator") (n := "__next__") (by rw[typeLookup_type,builtinLookup_eq_fast];kernel_rfl) (by decide +kernel) (by decide +kernel) (by decide +kernel) (by first|exact .inl (by decide +kernel)|exact .inr (by decide +kernel)) (by rw[isSubtype_type];kernel_rfl)
theorem vY:entryFor table "set_iterator.__next__" = some Builtin.«set_iterator.__next__»:=entryFor_of_tree (by kernel_rfl)
theorem xM:entryFor table "set.__iter__" = some Builtin.«frozenset.__iter__»:=entryFor_alias (id' := "frozenset.__iter__") (by kernel_rfl) rfl (by decide +kernel) (by kernel_rfl)
theorem wj(a:Q7):argsOk "set_iterator.__next__" ⟨[a],[]⟩:=by unfold argsOk;kernel_rfl
def nX(h:Vc)(a:Q9)(es:Array (Int×Q7))(ep:Nat)(t:SetTable):Prop:=∃o,h.get? a=some o/\o.ExactSet/\o.data=.set es ep t
def gO(w:Vb)(a:Q9)(es:Array (Int×Q7))(ep:Nat):Array (Int×Q7):=if w.params.followText "set-order" = true then pickOrder (w.params.setOrder a ep) es else es
theorem oW(w:Vb)(a:Q9)(es:Array (Int×Q7))(ep:Nat):(gO w a es ep).toList.Perm es.toList:=by
 unfold gO;split
 ·exact oQ _ _
 ·exact .refl _
def markOf(w:Vb)(t:SetTable)(i:Nat):Nat:=if w.params.followText "set-order" = true then 0 else if i=0 then 0 else t.place.getD (i - 1) 0+1
abbrev r6(a:Q9)(slot i n ep:Nat):Obj:={cls:=.type "set_iterator",dict:=none,data:=.fields #[rawInt slot,rawInt i,.ref a,rawInt n,rawInt ep],slots:=#[]}
section
variable{prog:Va}{w:Vb}{A:Vf}{E:Q7->Q8->Prop}{s:Q8}{a it:Q9}{es:Array (Int×Q7)}{ep:Nat}{t:SetTable}
theorem nX.state(S:nX s.heap a es ep t)(hf:t.fits es.size=true){Q:(Array (Int×Q7)×Nat×SetTable)->Q8->Prop}(h:Q (es,ep,t) s):wpAny (model prog w) A (setState a) Q E s:=by
 obtain⟨o,ho,_,hd⟩:=S;exact wpAny_setState_of ho hd hf h
theorem zB{Q:Q7->Q8->Prop}(S:nX s.heap a es ep t)(T:Tb t es.size)(hm:es.size<=4)(h:Q (.ref s.heap.objs.size) {s with heap:=s.heap.push (r6 a 0 0 es.size ep)}):wpAny (model prog w) A (pyIter (.ref a)) Q E s:=by
 have hf:=T.fits (by omega)
 obtain⟨o,ho,hex,hd⟩:=id S;have hT:s.TypeIs (.ref a) "set" := ⟨o,ho,hex.1⟩;refine wpAny_pyIter_slot hT PySem.F.slot_set_iter (wpAny_call_entry PySem.F.slot_set_iter hT xM ?_ (PySem.F.args_set_iter_1 _));unfold Builtin.«frozenset.__iter__»;rw[show Builtin.Frozenset.slot0 "__iter__" ⟨[.ref a],[]⟩=pure a from rfl];refine wpAny_bind (wpAny_pure (wpAny_bind (m:=Builtin.Frozenset.sizeOf a) ?_));unfold Builtin.Frozenset.sizeOf setEntries;refine wpAny_bind (wpAny_bind (S.state hf (wpAny_pure (wpAny_pure (wpAny_bind (m:=setDrawn a) ?_)))));unfold setDrawn setsByText;refine wpAny_bind (S.state hf ?_);dsimp only;refine wpAny_bind (wpAny_bind (wpAny_askSetting (wpAny_pure (wpAny_pure ?_))));show wpAny _ _ (if(!w.params.followText "set-order" && (!t.plain && decide (es.size > 1)))=true then _ else _) _ _ _;rw[T.plain,if_neg (by simp)]
 refine wpAny_bind (wpAny_pure (wpAny_bind (m:=setEpoch a) ?_));unfold setEpoch;refine wpAny_bind (S.state hf (wpAny_pure (wpAny_bind (m:=newFields _ _) ?_)));unfold newFields;refine wpAny_newObj_type (wpAny_pure ⟨_,rfl,"set_iterator",_,⟨_,get?_push_size _ rfl,rfl⟩,iE.lookup,h⟩) (by size_fits)
theorem xl(T:Tb t es.size)(hw:w.params.followText "set-order" = false){i:Nat}(hi:i<=es.size):SetTable.below t.place (markOf w t i)=i:=by
 unfold markOf;rw[if_neg (by rw[hw];exact Bool.false_ne_true)]
 by_cases h0:i=0
 ·subst h0;rw[if_pos rfl];exact y8 T.rise
 ·rw[if_neg h0];have hlt:i - 1<t.place.size:=by rw[T.size];omega
  have:=y9 T.rise hlt;rw[Array.getD_eq_getD_getElem?,Array.getElem?_eq_getElem hlt,Option.getD_some,this];omega
theorem yj{Q:Option (Q7×Nat)->Q8->Prop}{i:Nat}(S:nX s.heap a es ep t)(T:Tb t es.size)(hm:es.size<=4)(hled:t.led=!w.params.followText "set-order")(hi:i<=es.size)
  (h:Q ((gO w a es ep)[i]?.map λe=>(e.2,markOf w t (i+1))) s):wpAny (model prog w) A (setNext a (markOf w t i) i ep) Q E s:=by
 have hf:=T.fits (by omega)
 unfold setNext setsByText;refine wpAny_bind (S.state hf ?_);dsimp only;refine wpAny_bind (wpAny_bind (wpAny_askSetting (wpAny_pure ?_)));cases hw:w.params.followText "set-order" with
 |true=>
  show wpAny _ _ (if w.params.followText "set-order" = true then _ else _) _ _ _;rw[if_pos hw];simp only[bne_self_eq_false,Bool.false_eq_true,if_false];unfold setWalk setsByText;refine wpAny_bind (wpAny_bind (S.state hf ?_));dsimp only;refine wpAny_bind (wpAny_bind (wpAny_askSetting (wpAny_pure ?_)));show wpAny _ _ (if w.params.followText "set-order" = true then _ else _) _ _ _;rw[if_pos hw];refine wpAny_bind (wpAny_askSetting (wpAny_pure (wpAny_pure ?_)));have e1:gO w a es ep=pickOrder (w.params.setOrder a ep) es:=by unfold gO;rw[if_pos hw]
  have e2:∀j,markOf w t j=0:=λj=>by unfold markOf;rw[if_pos hw]
  rw[e1,e2] at h;rw[e2];exact h
 |false=>
  show wpAny _ _ (if w.params.followText "set-order" = true then _ else _) _ _ _;rw[if_neg (by rw[hw];exact Bool.false_ne_true)]
  show wpAny _ _ (if(!t.plain && decide (es.size > 1))=true then _ else _) _ _ _;rw[T.plain,if_neg (by simp)]
  refine wpAny_bind ?_;show wpAny _ _ (if(!t.led && !es.isEmpty)=true then _ else _) _ _ _;rw[hled,hw,if_neg (by simp)]
  refine wpAny_pure (wpAny_pure ?_);rw[xl T hw hi];have e1:gO w a es ep=es:=by unfold gO;rw[if_neg (by rw[hw];exact Bool.false_ne_true)]
  rw[e1] at h;by_cases hlt:i<es.size
  ·have hp:i<t.place.size:=by rw[T.size];exact hlt
   rw[Array.getElem?_eq_getElem hlt] at h ⊢;rw[Array.getElem?_eq_getElem hp];have e2:markOf w t (i+1)=t.place[i]+1:=by
    unfold markOf;rw[if_neg (by rw[hw];exact Bool.false_ne_true),if_neg (by omega),Nat.add_sub_cancel,Array.getD_eq_getD_getElem?,Array.getElem?_eq_getElem hp,Option.getD_some]
   rw[e2] at h;exact h
  ·rw[Array.getElem?_eq_none (by omega)] at h ⊢
   exact h
theorem oV:(gO w a es ep).size=es.size:=by rw[<-length_toList,(oW w a es ep).length_eq,length_toList]
theorem zz{Q:Option Q7->Q8->Prop}{i:Nat}{v:Q7}(S:nX s.heap a es ep t)(T:Tb t es.size)(hm:es.size<=4)(hled:t.led=!w.params.followText "set-order")(hit:s.heap.get? it=some (r6 a (markOf w t i) i es.size ep))(hi:i<es.size)(hv:((gO w a es ep)[i]?.map (·.2))=some v)
  (h:∀h',h'.get? it=some (r6 a (markOf w t (i+1)) (i+1) es.size ep)->Heap.SameBut it s.heap h'->Q (some v) {s with heap:=h'}):wpAny (model prog w) A (pyNext (.ref it)) Q E s:=by
 have hf:=T.fits (by omega)
 have hT:s.TypeIs (.ref it) "set_iterator" := ⟨_,hit,rfl⟩;unfold pyNext;refine wpAny_bind (wpAny_attempt (wpAny_callSpecial?_slot (name:=Str.ofString "__next__") hT iE (wpAny_call_entry iE hT vY ?_ (wj _))));unfold Builtin.«set_iterator.__next__»;rw[show slotArgs "__next__" 0 ⟨[.ref it],[]⟩=pure (.ref it,[]) from rfl];refine wpAny_bind (wpAny_pure (wpAny_bind (wpAny_fieldsOf hit rfl ?_)));show wpAny _ _ (setEntries a >>= _) _ _ _;unfold setEntries;refine wpAny_bind (wpAny_bind (S.state hf (wpAny_pure ?_)));show wpAny _ _ (if(((es.size:Nat):Int) != ((es.size:Nat):Int))=true then _ else _) _ _ _;rw[if_neg (by simp)]
 show wpAny _ _ (setNext a ((markOf w t i:Nat):Int).toNat ((i:Nat):Int).toNat ((ep:Nat):Int).toNat >>= _) _ _ _;rw[toNat_natCast,toNat_natCast,toNat_natCast];refine wpAny_bind (yj S T hm hled (by omega) ?_)
 cases ho:(gO w a es ep)[i]? with
 |none=>rw[ho] at hv;cases hv
 |some e=>
  rw[ho] at hv;cases hv;show wpAny _ _ (setField (.ref it) 0 (rawInt ((markOf w t (i+1):Nat):Int)) >>= _) _ _ _;refine wpAny_bind (wpAny_setField_rec hit (by simp) λh1 i1 s1=>?_)
  refine wpAny_bind (wpAny_setField_rec (s:={s with heap:=h1}) i1 (by simp) λh2 i2 s2=>?_)
  exact wpAny_pure ⟨_,rfl,wpAny_pure (h h2 i2 (s1.trans s2))⟩
theorem zC{Q:Option Q7->Q8->Prop}(hh:A.handled=none)(S:nX s.heap a es ep t)(T:Tb t es.size)(hm:es.size<=4)(hled:t.led=!w.params.followText "set-order")(hit:s.heap.get? it=some (r6 a (markOf w t es.size) es.size es.size ep))
  (h:∀h',Heap.ExtBut it s.heap h'->Q none {s with heap:=h'}):wpAny (model prog w) A (pyNext (.ref it)) Q E s:=by
 have hf:=T.fits (by omega)
 have hT:s.TypeIs (.ref it) "set_iterator" := ⟨_,hit,rfl⟩;unfold pyNext;refine wpAny_bind (wpAny_attempt (wpAny_callSpecial?_slot (name:=Str.ofString "__next__") hT iE (wpAny_call_entry iE hT vY ?_ (wj _))));unfold Builtin.«set_iterator.__next__»;rw[show slotArgs "__next__" 0 ⟨[.ref it],[]⟩=pure (.ref it,[]) from rfl];refine wpAny_bind (wpAny_pure (wpAny_bind (wpAny_fieldsOf hit rfl ?_)));show wpAny _ _ (setEntries a >>= _) _ _ _;unfold setEntries;refine wpAny_bind (wpAny_bind (S.state hf (wpAny_pure ?_)));show wpAny _ _ (if(((es.size:Nat):Int) != ((es.size:Nat):Int))=true then _ else _) _ _ _;rw[if_neg (by simp)]
 show wpAny _ _ (setNext a ((markOf w t es.size:Nat):Int).toNat ((es.size:Nat):Int).toNat ((ep:Nat):Int).toNat >>= _) _ _ _;rw[toNat_natCast,toNat_natCast,toNat_natCast];refine wpAny_bind (yj S T hm hled (le_refl _) ?_);rw[Array.getElem?_eq_none (by rw[oV];exact le_refl _)]
 show wpAny _ _ (setField (.ref it) 2 Value.none >>= _) _ _ _;refine wpAny_bind (wpAny_setField_rec hit (by simp) λh1 i1 s1=>?_)
 refine wpAny_bind ?_;simp only[newExc,newTuple];refine wpAny_bind (wpAny_newObj_type ?_ (by size_fits))
 refine wpAny_bind (m:=firstArgMember _ _) (wpAny_of_eq (a:=Value.none) (by first|rfl|(simp only[firstArgMember];rfl)) ?_);refine wpAny_newObj_type ?_ (by size_fits);simp only[raiseNew]
 refine wpAny_bind (wpAny_handled ?_);first|rw[show A.in1.handled=none from hh]|rw[hh]
 refine wpAny_bind (wpAny_pure (wpAny_throw ?_));refine wpAny_bind (wpAny_isInstance (T := "StopIteration") (b:=true) ⟨_,get?_push_size _ rfl,rfl⟩ isSubtype_stop ?_);exact wpAny_pure (h _ ((s1.extBut.push _).push _))
end
theorem qM:Slot "set_iterator" "__iter__" "set_iterator.__iter__" := .of (owner := "set_iterator") (n := "__iter__") (by rw[typeLookup_type,builtinLookup_eq_fast];kernel_rfl) (by decide +kernel) (by decide +kernel) (by decide +kernel) (by first|exact .inl (by decide +kernel)|exact .inr (by decide +kernel)) (by rw[isSubtype_type];kernel_rfl)
theorem Ac:entryFor table "set_iterator.__iter__" = some Builtin.«dict_keyiterator.__iter__»:=entryFor_alias (id' := "dict_keyiterator.__iter__") (by kernel_rfl) rfl (by decide +kernel) (by kernel_rfl)
theorem Az(a:Q7):argsOk "set_iterator.__iter__" ⟨[a],[]⟩:=by unfold argsOk;kernel_rfl
section
variable{prog:Va}{w:Vb}{A:Vf}{E:Q7->Q8->Prop}{s:Q8}{a:Q9}{es:Array (Int×Q7)}{ep:Nat}{t:SetTable}
theorem nX.at{h h':Vc}(S:nX h a es ep t)(k:∀o,h.get? a=some o->h'.get? a=some o):nX h' a es ep t:=by
 obtain⟨o,ho,r⟩:=S;exact⟨o,k o ho,r⟩
theorem wB(hh:A.handled=none)(T:Tb t es.size)(hm:es.size<=4)(hled:t.led=!w.params.followText "set-order")(it:Q9)(ne:a≠it):
  Walks prog w A it [it,a] [it] es.size (λi v=>((gO w a es ep)[i]?.map (·.2))=some v) (λi h=>h.get? it=some (r6 a (markOf w t i) i es.size ep)/\nX h a es ep t) where
 sub:=λb hb=>by rw[mem_singleton.mp hb];simp
 frame:=λi h h' st k=>⟨k it (by simp) _ st.1,st.2.at λo e=>k a (by simp) o e⟩
 item:=λi s Q E hi st hQ=>by
  have hlt:i<(gO w a es ep).size:=by rw[oV];exact hi
  refine zz (v:=(gO w a es ep)[i].2) st.2 T hm hled st.1 hi (by rw[Array.getElem?_eq_getElem hlt];rfl) λh' i1 sb=>?_
  exact hQ _ h' s.toks (by rw[Array.getElem?_eq_getElem hlt];rfl) ⟨i1,st.2.at λo e=>sb.extBut _ _ ne e⟩ λb o hb e=>sb.extBut b o (by simpa using hb) e
 done:=λs Q E st hQ=>zC hh st.2 T hm hled st.1 λh' kp=>hQ h' s.toks λb o hb e=>kp b o (by simpa using hb) e
 self:=λi s Q E st h=>by
  have hT:s.TypeIs (.ref it) "set_iterator" := ⟨_,st.1,rfl⟩;refine wpAny_pyIter_slot hT qM (wpAny_call_entry qM hT Ac (wpAny_pure ⟨_,rfl,"set_iterator",_,hT,iE.lookup,h⟩) (Az _))
theorem Cd(hT:s.TypeIs (.ref a) "set"){Q:Bool->Q8->Prop}(h:Q false s):wpAny (model prog w) A (Builtin.List.listLengthHint (.ref a)) Q E s:=by
 unfold Builtin.List.listLengthHint;refine wpAny_bind (wpAny_specialOf hT PySem.F.slot_set_len.lookup ?_);generalize hid:("set.__len__" : Vg)=id0;wp_delta;rw[show splitId id0=some ("set","__len__") from by subst hid;decide +kernel];subst hid
 refine wpAny_bind (wpAny_isInstance (T := "set") (b:=true) hT (by rw[isSubtype_type];kernel_rfl) (wpAny_ite_split (λhab=>absurd hab (by decide)) (λ_=>wpAny_ite_split (λ_=>?_) (λhab=>absurd (by decide +kernel) hab))))
 exact wpAny_bind (wpAny_typeOf hT (wpAny_pure h))
theorem C4(T:Tb t es.size)(hm:es.size<=4)(hled:t.led=!w.params.followText "set-order"):KdlSrc prog w "set" a a es.size (λi v=>((gO w a es ep)[i]?.map (·.2))=some v) (λh=>nX h a es ep t) where
 type:=λs S=>by obtain⟨o,ho,hex,_⟩:=S;exact⟨o,ho,hex.1⟩
 there:=λh S=>by obtain⟨o,ho,_⟩:=S;exact⟨lt_size ho,lt_size ho⟩
 keep:=λh h' S k=>S.at λo e=>k a (.inl rfl) o e
 notList:=by decide
 notTuple:=by decide
 hint:=λA E s Q S hq=>by obtain⟨o,ho,hex,_⟩:=S;exact Cd ⟨o,ho,hex.1⟩ hq
 iter:=λA s hh S=>by
  have hlt:a<s.heap.objs.size:=by obtain⟨o,ho,_⟩:=S;exact lt_size ho
  refine⟨r6 a 0 0 es.size ep,_,λE Q hq=>zB S T hm hq,wB hh T hm hled _ (ne_of_lt hlt),?_,S.at λo e=>get?_push_of_some _ e⟩;have:markOf w t 0=0:=by unfold markOf;split <;> rfl
  rw[this];exact get?_push_size _ rfl
theorem tE{es es':List Q7}(p:es'.Perm es):∀{ks:List Int},IntsAre es ks->∃ks',IntsAre es' ks'/\ks'.Perm ks:=by
 have q:=p.symm;clear p
 induction q with
 |nil=>intro ks h;cases h;exact⟨[],.nil,.refl _⟩
 |cons x _ ih=>
  intro ks h;cases h with
  |cons k tk t=>obtain⟨ks',e,p⟩:=ih t;exact⟨k::ks',.cons k tk e,p.cons k⟩
 |swap x y l=>
  intro ks h;cases h with
  |cons k tk t=>cases t with
   |cons k2 tk2 t2=>exact⟨k2::k::_,.cons k2 tk2 (.cons k tk t2),List.Perm.swap _ _ _⟩
 |trans _ _ ih1 ih2=>
  intro ks h;obtain⟨k1,e1,p1⟩:=ih1 h;obtain⟨k2,e2,p2⟩:=ih2 e1;exact⟨k2,e2,p2.trans p1⟩
theorem CC{T:Vg}{r d:Q9}{n:Nat}{P:Nat->Q7->Prop}{OK:Vc->Prop}{R:List Q7->Q8->Prop}(K:KdlSrc prog w T r d n P OK)(hh:A.handled=none)(hok:OK s.heap)(hn:n<=sizeLine)
  (h:∀(h':Vc)(tk:Nat)(acc:Array Q7),(∀b o,s.heap.get? b=some o->h'.get? b=some o)->s.heap.objs.size<h'.objs.size->ItemsOf P acc n->R acc.toList {s with heap:=h',toks:=tk}):wpAny (model prog w) A (collect (.ref r)) R E s:=by
 obtain⟨hr,hd⟩:=K.there _ hok;unfold collect;refine wpAny_bind (wpAny_runValue (codeAny_builtin entry_proto_collect' ?_));rw[Around.under_plainId PySem.F.plain_proto_collect _];refine wpAny_bind (m:=newList []) (wpAny_newObj_type (wpAny_pure ⟨plainId_quiet PySem.F.plain_list_iadd _,codeAny_builtin entry_list_iadd' ?_⟩));rw[Around.under_plainId PySem.F.plain_list_iadd _];have e0:(s.heap.push {cls:=.type "list",data:=.seq ([]:List Q7).toArray}).get? s.heap.objs.size=some {cls:=.type "list",data:=.seq #[]}:=get?_push_size _ rfl;have fin:∀(q:Result)(s':Q8),(∃(h':Vc)(tk:Nat)(acc:Array Q7)(c:Nat),q=.ok (.ret (.ref s.heap.objs.size))/\s'={s with heap:=h',toks:=tk}/\(∀b o,s.heap.get? b=some o->h'.get? b=some o)/\h'.get? s.heap.objs.size=some {cls:=.type "list",dict:=none,data:=.seq acc c,slots:=#[]}/\ItemsOf P acc n)->∃v,q=.ok (.ret v)/\wpAny (model prog w) A (match v with|.ref a=>(do match (<-load a).data with|.seq xs _=>pure xs.toList|_=>unsupported "internal:collect")|_=>unsupported "internal:collect") R E s':=by
  rintro q s' ⟨h',tk,acc,c,rfl,rfl,kp,e,it⟩
  exact⟨_,rfl,wpAny_bind (wpAny_load e (wpAny_pure (h h' tk acc kp (lt_size e) it)))⟩
 have key:=PySem.W.kdl_extend (A:=A) (s:={s with heap:=s.heap.push {cls:=.type "list",data:=.seq ([]:List Q7).toArray}}) (R:=λq s'=>∃(h':Vc)(tk:Nat)(acc:Array Q7)(c:Nat),q=.ok (.ret (.ref s.heap.objs.size))/\s'={s with heap:=h',toks:=tk}/\(∀b o,s.heap.get? b=some o->h'.get? b=some o)/\h'.get? s.heap.objs.size=some {cls:=.type "list",dict:=none,data:=.seq acc c,slots:=#[]}/\ItemsOf P acc n)
  K hh (K.keep _ _ hok λb _ o e=>get?_push_of_some _ e) s.heap.objs.size (ne_of_gt hr) (ne_of_gt hd) (.ref s.heap.objs.size) 0 e0 (λh' tk acc c kp e it=>⟨h',tk,acc,c,rfl,rfl,λb o q=>kp b o (ne_of_lt (lt_size q)) (get?_push_of_some _ q),e,it⟩) hn
 refine wpAny_mono key (λfn s' x=>?_) (λe s' x=>by obtain⟨_,_,_,_,z,_⟩:=x;cases z)
 cases fn with
 |done f=>obtain⟨v,e,z⟩:=fin _ _ x;cases e;exact z
 |again c=>exact⟨x.1,codeAny_mono x.2 λq s2 y=>by obtain⟨v,e,z⟩:=fin _ _ y;subst e;exact z⟩
theorem tV{ks:List Int}{Q:Q7->Q8->Prop}(hh:A.handled=none)(S:SetX w s.heap a ks)(hk:ks.length<=4)
  (h:∀(h':Vc)(tk:Nat)(out:List Q7)(ns:List Int)(D:Q9)(n:Nat),IntsAre out ns->ns.Perm ks->ns.Pairwise (·<=·)->(∀b o,s.heap.get? b=some o->h'.get? b=some o)->s.heap.objs.size<=D->h'.get? D=some {cls:=.type "list",data:=.seq out.toArray n}->Q (.ref D) {s with heap:=h',toks:=tk}):
  wpAny (model prog w) A (call (.builtin "sorted") [.ref a]) Q E s:=by
 obtain⟨o,es,ep,t,ks',ho,hex,hd,hes,hp,T,hled⟩:=S;have hsz:es.size=ks.length:=by rw[<-length_toList,hes.length,hp.length_eq]
 have S1:nX s.heap a es ep t:=⟨o,ho,hex,hd⟩;refine Calls.call_function_entry kind_sorted plain_sorted entry_sorted (args_sorted1 _) ?_;unfold Builtin.«sorted»;refine wpAny_bind (m:=checkCount "sorted" 1 1 _) (wpAny_pure (wpAny_bind (CC (A:=A.in1) (C4 T (by omega) hled) hh S1 (by rw[sizeLine_eq];omega) λh1 tk acc kp hlt0 hacc=>?_)))
 have hperm:(acc.toList).Perm (es.toList.map (·.2)):=by
  have e:acc.toList=(gO w a es ep).toList.map (·.2):=by
   refine List.ext_getElem? λi=>?_;rw[getElem?_map,getElem?_toList,getElem?_toList];by_cases hi:i<acc.size
   ·have:=hacc.2 i acc[i] (Array.getElem?_eq_getElem hi);rw[Array.getElem?_eq_getElem hi,this]
   ·rw[Array.getElem?_eq_none (by omega),Array.getElem?_eq_none (by rw[oV,<-hacc.1];omega)]
    rfl
  rw[e];exact(oW w a es ep).map _
 obtain⟨k1,hints,pk⟩:∃k1,IntsAre acc.toList k1/\k1.Perm ks:=by
  obtain⟨k1,e1,p1⟩:=tE hperm hes.ints;exact⟨k1,e1,p1.trans hp⟩
 have hal:acc.toList.length<=4:=by rw[hints.length,pk.length_eq];exact hk
 refine wpAny_bind (wpAny_newList ?_ (by rw[sizeLine_eq];omega))
 have hoL:(h1.push {cls:=.type "list",data:=.seq acc.toList.toArray}).get? h1.objs.size=some (seqObj "list" acc.toList.toArray 0):=get?_push_size _ rfl;refine wpAny_bind (wpAny_holding (wpAny_call_entry (s:={s with heap:=h1.push {cls:=.type "list",data:=.seq acc.toList.toArray},toks:=tk}) slot_list_sort ⟨_,hoL,rfl⟩ entry_list_sort (list_sort_tree hoL hints (by omega) λout ns' i1 p2 so=>⟨_,rfl,?_⟩) (args_list_sort _)))
 obtain⟨e,he⟩:=sortedHeap_at (out:=out) hoL;have hle:s.heap.objs.size<=h1.objs.size:=le_of_lt hlt0;refine wpAny_pure ⟨_,rfl,h _ _ out.toList ns' h1.objs.size e i1 (p2.trans pk) so (λb o hb=>?_) hle (by simpa [seqObj] using he)⟩
 have hb1:=kp b o hb;have hlt:=lt_size hb1;rw[sortedHeap_old (ne_of_lt hlt) (by rw[size_push];exact lt_succ_of_lt hlt)]
 exact get?_push_of_some _ hb1
end
section
variable{X:Cx}
def JR(ns:List Int):Prop:=ns.length<=4/\∀n∈ns,0<=n/\n<32
def Hm(w:Vb)(a:Q9)(ks:List Int):HO:=.ext λh=>SetX w h a ks
theorem xT(hc:X.calm=true)(SY:Vc->Q9->List Int->Prop):cJ X (.type "set") (λxs H Q=>∃(p:Q9)(ns:List Int),xs=[.ref p]/\fJ X.K H p (ns.map V.int)/\ED X.prog X.w ns SY/\∀(a:Q9)(ks:List Int),H a=none->(∀n,n∈ks↔n∈ns)->ks.Nodup->Q (.ref a) (bW H a (.ext λh=>SY h a ks))):=λpins s σ H xs us Q I rs ⟨p,ns,ex,sq,G,q⟩=>by
 subst ex;obtain⟨u,rfl,r2⟩:=fK rs;obtain rfl:u=Value.ref p:=r2;obtain⟨its,rv,pl,hz⟩:=I.list sq;refine An (I.ok.hd hc) pl.isList (by simpa using xC rv) G λh' tk ks S m nd kp=>?_
 exact⟨.ref s.heap.objs.size,_,I.laid (o:=.ext λh=>SY h s.heap.objs.size ks) (t':=tk) kp (le_refl _) ⟨S,G.there S,λh1 h2 S1 k=>G.stay S1 k⟩,rfl,q _ ks (I.hok.fresh (le_refl _)) m nd⟩
theorem Ao(hc:X.calm=true):cJ X (.type "set") (λxs H Q=>∃(p:Q9)(ns:List Int),xs=[.ref p]/\fJ X.K H p (ns.map V.int)/\JR ns/\∀(a:Q9)(ks:List Int),H a=none->(∀n,n∈ks↔n∈ns)->ks.Nodup->Q (.ref a) (bW H a (Hm X.w a ks))):=
 λpins s σ H xs us Q I rs ⟨p,ns,ex,sq,fw,q⟩=>xT hc (SetX X.w) pins s σ H xs us Q I rs ⟨p,ns,ex,sq,Ff fw.2 fw.1,q⟩
theorem oA:∀{us:List Q7}{ns:List Int},IntsAre us ns->Vals (ns.map V.int) us
 |_,_,.nil=>.nil
 |_,_,.cons n t r=>.cons ⟨t,rfl⟩ (oA r)
theorem tW(hc:X.calm=true):cJ X (.builtin "sorted") (λxs H Q=>∃(a:Q9)(ks:List Int),xs=[.ref a]/\H a=some (Hm X.w a ks)/\ks.length<=4/\∀(l:Q9)(ns:List Int),H l=none->ns.Perm ks->ns.Pairwise (·<=·)->Q (.ref l) (bW H l (.lst (ns.map V.int)))):=λpins s σ H xs us Q I rs ⟨a,ks,ex,ea,hk,q⟩=>by
 subst ex;obtain⟨u,rfl,r2⟩:=fK rs;obtain rfl:u=Value.ref a:=r2;obtain⟨S,_,_⟩:SetX X.w s.heap a ks/\_:=I.hok a _ ea;refine tV (I.ok.hd hc) S hk λh' tk out ns D n it pm so kp hD e=>?_;refine⟨.ref D,_,I.laid (o:=.lst (ns.map V.int)) (t':=tk) kp hD ⟨?_,out,n,oA it,e⟩,rfl,q D ns (I.hok.fresh hD) pm so⟩;rw[length_map,pm.length_eq,sizeLine_eq];omega
theorem Aq:bootBuiltins "set" = some (.type "set"):=by decide +kernel
theorem tZ:bootBuiltins "sorted" = some (.builtin "sorted"):=by decide +kernel
end
def FU(c:Nat):V:=.str ⟨#[c]⟩
def JG(x:Str):It:=⟨λi _=>i<x.cps.size,λi H v H'=>H'=H/\∃c,x.cps[i]?=some c/\v=FU c,λi _=>x.cps.size<=i⟩
theorem uj{P:Va}{w:Vb}{K:Frag}{tg:Vd}{n:Vg}{x:Str}{t:Tok}{it:Q9}(hn:["enumerate","zip","dict_itemiterator","dict_reverseitemiterator","odict_iterator","itertools.zip_longest","itertools.pairwise"].contains n=false)
  (Wk:∀A:Vf,A.handled=none->Walks P w A it [it] [it] x.cps.size (SignAt x) (λi h=>h.IsStrIter it n x t i))
  (hs:∀(A:Vf)(i:Nat)(s:Q8)(Q:Q7->Q8->Prop)(E:Q7->Q8->Prop),s.heap.IsStrIter it n x t i->Q (.ref it) s->wpAny (model P w) A (pyIter (.ref it)) Q E s):u7 P w K tg (JG x) [it] it (λi h=>i<=x.cps.size/\h.IsStrIter it n x t i) where
 mem:=by simp
 obj:=λi h st b hb=>by
  have e:b=it:=by simpa using hb
  subst e;obtain⟨_,o,e,c,d⟩:=st;exact⟨o,e,λv z=>by rw[d] at z;cases z⟩
 keep:=λi h h' st k=>⟨st.1,by obtain⟨o,e,r⟩:=st.2;exact⟨o,k it (by simp) o e,r⟩⟩
 item:=by
  intro X hP hw hK hc i pins s σ H E I hf st hg;subst hP hw hK;obtain⟨f0,f1,f2,f3,f4,f5⟩:=hf it (by simp)
  have W:=Wk X.A (I.ok.hd hc);refine W.item i s _ _ hg st.2 λv h' tk hv st' kk=>?_;obtain⟨c,u,hcc,rfl⟩:=hv;have I1:aD X pins σ H {s with heap:=h',toks:=tk}:=I.turned (λb o hb e=>kk b o (by simpa using hb) e) f0 f1 f3 f4 f5
  obtain⟨o,e,ec,ed⟩:=id st';exact⟨_,rfl,yO (s:={s with heap:=h',toks:=tk}) (n:=n) e ec ed hn ⟨FU c,H,I1,⟨u,rfl⟩,⟨rfl,c,hcc,rfl⟩,⟨hg,st'⟩,λb hb=>(hf b hb).1⟩⟩
 done:=by
  intro X hP hw hK hc i pins s σ H E I hf st hg;subst hP hw hK;obtain⟨f0,f1,f2,f3,f4,f5⟩:=hf it (by simp)
  have ei:i=x.cps.size:=Nat.le_antisymm st.1 hg;have st2:=st.2;rw[ei] at st2;exact(Wk X.A (I.ok.hd hc)).done s _ _ st2 λh' tk kk=>⟨rfl,I.turned (t':=tk) (λb o hb e=>kk b o (by simpa using hb) e) f0 f1 f3 f4 f5⟩
 self:=λA i s Q E st h=>hs A i s Q E st.2 h
section
variable{X:Cx}{tg:Vd}
def Ka(tl:TE):TI:=λσ H R=>tl σ H λx H1=>∃z,x=.str z/\R (JG z) H1
theorem Fw{l:Vd}{tl:TE}(hl:PE X l tl):PI X tg l (Ka tl):=by
 intro pins s σ H R I h;refine cA (hl pins s σ H _ I h) λv s1 ⟨x,H1,I1,r1,z,e,q⟩=>?_;subst e;obtain⟨t,rfl⟩:=r1;have f1:∀b∈[s1.heap.objs.size],FpOk X pins H1 b:=λb hb=>by
  rw[mem_singleton.mp hb];exact I1.fpOk (le_refl _) (I1.hok.fresh (le_refl _))
 cases ha:z.cps.all (· < 128) with
 |false=>exact wpAny_pyIter_wide ha ⟨s1.heap.objs.size,[s1.heap.objs.size],_,_,H1,rfl,I1.kept (t':=s1.toks) (λb o e=>get?_push_of_some _ e),uj (n := "str_iterator") (x:=z) (t:=t) (by decide) (λA hA=>Walks.strWide hA _ z t) (λA i s Q E st h=>wpAny_pyIter_striter_wide st h),⟨zero_le _,_,get?_push_size _ rfl,rfl,rfl⟩,f1,q⟩
 |true=>exact wpAny_pyIter_ascii ha ⟨s1.heap.objs.size,[s1.heap.objs.size],_,_,H1,rfl,I1.kept (t':=s1.toks) (λb o e=>get?_push_of_some _ e),uj (n := "str_ascii_iterator") (x:=z) (t:=t) (by decide) (λA hA=>Walks.strAscii hA _ z t) (λA i s Q E st h=>wpAny_pyIter_striter_ascii st h),⟨zero_le _,_,get?_push_size _ rfl,rfl,rfl⟩,f1,q⟩
theorem Fe:Il X (λv lo hi H Q=>∃z,v=.str z/\z.length<=sizeLine/\Q (.str (Txt.slice z lo hi)) H):=by
 intro pins s σ H x v vl vu lo hi sl Q I rx hs pl pu h;obtain⟨z,rfl,hz,q⟩:=h;obtain⟨t,rfl⟩:=rx;refine⟨"str",_,PySem.F.slot_str_getitem.lookup,typeIs_str _ _ _,?_⟩;have fin:∀t' k,EP X pins σ Q (.str (Txt.slice z lo hi) t') {s with toks:=k}:=λt' k=>⟨.str (Txt.slice z lo hi),H,I.tok k,⟨t',rfl⟩,q⟩;cases pl with
 |none=>
  cases pu with
  |none=>exact wpAny_getItem_str_slice (l:=none) (u:=none) (st:=none) hs rfl (post_val_or_str ⟨le_trans (Txt.slice_le z _ _) hz,fin⟩)
  |int j tj=>exact wpAny_getItem_str_slice (l:=none) (u:=some (j,tj)) (st:=none) hs rfl (post_val_or_str ⟨le_trans (Txt.slice_le z _ _) hz,fin⟩)
 |int i ti=>
  cases pu with
  |none=>exact wpAny_getItem_str_slice (l:=some (i,ti)) (u:=none) (st:=none) hs rfl (post_val_or_str ⟨le_trans (Txt.slice_le z _ _) hz,fin⟩)
  |int j tj=>exact wpAny_getItem_str_slice (l:=some (i,ti)) (u:=some (j,tj)) (st:=none) hs rfl (post_val_or_str ⟨le_trans (Txt.slice_le z _ _) hz,fin⟩)
theorem FP:gd X (compareOp .In) (λx y H Q=>∃c j,x=FU c/\y=.str j/\Q (.bl (decide (c∈j.cps.toList))) H):=by
 intro pins s σ H x y v u Q I rx ry ⟨c,j,ex,ey,q⟩;subst ex ey;obtain⟨t,rfl⟩:=rx;obtain⟨t',rfl⟩:=ry;refine in_str ?_;rw[StrLaws.found_one];exact⟨.bl _,H,I,rfl,q⟩
theorem qt:GL X "str.startswith" (λx vs H Q=>∃z y,x=.str z/\vs=[.str y]/\Q (.bl (Txt.startswith z y)) H):=by
 intro pins s σ H x xs v us Q I rx rs ⟨z,y,ex,es,q⟩;subst ex es;obtain⟨t,rfl⟩:=rx;obtain⟨u,rfl,⟨t',rfl⟩⟩:=fK rs;exact SC.startswith ⟨.bl _,H,I,rfl,q⟩
theorem mK:∀{zs:List Str}{us:List Q7},Vals (zs.map V.str) us->∃l:List (Str×Tok),us=strValues l/\l.map (·.1)=zs
 |[],_,.nil=>⟨[],rfl,rfl⟩
 |z::zs,_,.cons ⟨t,rfl⟩ r=>by
  obtain⟨l,rfl,e⟩:=mK r;exact⟨(z,t)::l,rfl,by rw[map_cons,e]⟩
theorem DQ:GL X "str.join" (λx vs H Q=>∃z p zs,x=.str z/\vs=[.ref p]/\fJ X.K H p (zs.map V.str)/\JoinOk z zs=true/\Q (.str (Txt.join z zs)) H):=by
 intro pins s σ H x xs v us Q I rx rs ⟨z,p,zs,ex,es,sq,hj,q⟩;subst ex es;obtain⟨t,rfl⟩:=rx;obtain⟨u,rfl,r2⟩:=fK rs;obtain rfl:u=Value.ref p:=r2;obtain⟨its,rv,pl,hz⟩:=I.list sq;obtain⟨l,rfl,el⟩:=mK rv;exact SC.join pl.isList el hj λt' k=>⟨.str _,H,I.tok k,⟨t',rfl⟩,q⟩
theorem qy:cJ X (.type "int") (λxs H Q=>∃z n,xs=[.str z]/\PySem.intText? z=some n/\z.length<=640/\Q (.int n) H):=by
 intro pins s σ H xs us Q I rs ⟨z,n,ex,hn,hl,q⟩;subst ex;obtain⟨u,rfl,⟨t,rfl⟩⟩:=fK rs;exact PySem.W.KIN.call_text hn hl ⟨.int _,H,I.tok _,⟨_,rfl⟩,q⟩
end
end L2
namespace L3
open PySem PySem.Spec PyProof.Rows L2
theorem ph(k x:Int):∀l:List Int,x∈insD k l↔x=k\/x∈l
 |[]=>by simp[insD]
 |y::r=>by
  unfold insD;split
  ·simp
  ·split
   ·rename_i h;subst h;simp
   ·rw[mem_cons,ph k x r,mem_cons];constructor
    ·rintro (h|h|h) <;> simp[h]
    ·rintro (h|h|h) <;> simp[h]
theorem yM(k:Int):∀l:List Int,l.Pairwise (· < ·)->(insD k l).Pairwise (· < ·)
 |[],_=>by simp[insD]
 |y::r,h=>by
  obtain⟨h1,h2⟩:=pairwise_cons.mp h;unfold insD;split
  ·rename_i hk;refine pairwise_cons.mpr ⟨λz hz=>?_,h⟩;rcases mem_cons.mp hz with rfl|hz
   ·exact hk
   ·have:=h1 z hz;omega
  ·split
   ·exact h
   ·refine pairwise_cons.mpr ⟨λz hz=>?_,yM k r h2⟩;rcases(ph k z r).mp hz with rfl|hz
    ·omega
    ·exact h1 z hz
theorem qI(x:Int):∀l:List Int,x∈eY l↔x∈l
 |[]=>by simp[eY]
 |y::r=>by
  show x∈insD y (eY r)↔_;rw[ph,qI x r,mem_cons]
theorem uF:∀l:List Int,(eY l).Pairwise (· < ·)
 |[]=>by simp[eY]
 |y::r=>yM y _ (uF r)
theorem qY:∀{l m:List Int},l.Pairwise (· < ·)->m.Pairwise (· < ·)->(∀x,x∈l↔x∈m)->l=m
 |[],[],_,_,_=>rfl
 |[],y::m,_,_,h=>by have:=(h y).mpr (mem_cons_self);cases this
 |x::l,[],_,_,h=>by have:=(h x).mp (mem_cons_self);cases this
 |x::l,y::m,h1,h2,h=>by
  obtain⟨a1,a2⟩:=pairwise_cons.mp h1;obtain⟨b1,b2⟩:=pairwise_cons.mp h2;have e:x=y:=by
   have p:=(h x).mp mem_cons_self;have q:=(h y).mpr mem_cons_self;rcases mem_cons.mp p with e|p
   ·exact e
   ·rcases mem_cons.mp q with e|q
    ·exact e.symm
    ·have:=b1 x p;have:=a1 y q;omega
  subst e;congr 1;refine qY a2 b2 λz=>⟨λhz=>?_,λhz=>?_⟩
  ·rcases mem_cons.mp ((h z).mp (mem_cons_of_mem _ hz)) with rfl|q
   ·have:=a1 z hz;omega
   ·exact q
  ·rcases mem_cons.mp ((h z).mpr (mem_cons_of_mem _ hz)) with rfl|q
   ·have:=b1 z hz;omega
   ·exact q
theorem zx{ns ks l:List Int}(hm:∀n,n∈ks↔n∈ns)(nd:ks.Nodup)(pm:l.Perm ks)(so:l.Pairwise (·<=·)):l=eY ns:=by
 refine qY ?_ (uF ns) λx=>by rw[qI,<-hm,pm.mem_iff]
 have nd':l.Nodup:=pm.nodup_iff.mpr nd;have h:=List.Pairwise.and so nd';exact h.imp λ{a b} ⟨h1,h2⟩=>by omega
section
variable{X:Cx}{Γ:Ct}{W:XW}
theorem Eb{ns:List Int}(h:fewD ns=true):JR ns:=by
 unfold fewD at h;simp only[Bool.and_eq_true,decide_eq_true_eq,all_eq_true] at h;exact⟨h.1,λn hn=>by simpa using h.2 n hn⟩
theorem sN{a:Vd}{g:ME}{p p' pos' pos:Pos}(hK:X.K=Γ.K)(hc:X.calm=true)(hg:Gl X "sorted")(hm:X.mg "sorted" = none)(hg2:Gl X "set")(hm2:X.mg "set" = none)(ha:PD X Γ W a g)
  (hs1:starEach [a] X.env=(false,eval a X.env)::starEach [] X.env:=by rfl) (hpl:(backTo pos' (starEach [] X.env)).any (·.1)=false:=by rfl)
  (hs3:starEach [.Call (.Name "set" p') [a] [] pos'] X.env=(false,eval (.Call (.Name "set" p') [a] [] pos') X.env)::starEach [] X.env:=by rfl) (hpl2:(backTo pos (starEach [] X.env)).any (·.1)=false:=by rfl):
  PD X Γ W (.Call (.Name "sorted" p) [.Call (.Name "set" p') [a] [] pos'] [] pos) (dH my g):=
 PE.imp (m6 (tW hc) hg hm tZ (bH (qS (Ao hc) hg2 hm2 Aq (bH ha de hs1) (by decide) (by decide) hs1 hpl) de hs3) (by decide) (by decide) hs3 hpl2) λ_ _ σ H Q _ ⟨B0,B1,Hs,ρ,r,re,e,q⟩=>by
  refine(bu re e q).mono λv H1 ⟨Hs1,d,g1,re1,rp,e1,q1⟩=>?_;cases d with
  |lst ds=>
   have e1:(intsOf ds).bind (λns=>if fewD ns=true then okL ((eY ns).map D.int) else none)=some r:=e1;cases hi:intsOf ds with
   |none=>rw[hi] at e1;cases e1
   |some ns=>
    rw[hi] at e1;obtain⟨hf,rfl⟩:=bL (c:=fewD ns=true) e1;obtain⟨b,xs,rfl,sq,rl⟩:=aH.mp rp;have ex:=rl.intsOf hi;subst ex;have fw:=Eb hf;have sm:=re1.b.i;refine⟨b,ns,rfl,by rw[hK];exact aj.seq sm sq,fw,λa ks ha hm nd=>?_⟩
    refine⟨a,ks,rfl,aF,?_,λl ms hl pm so=>?_⟩
    ·have:ks.length<=ns.length:=List.Nodup.length_le_of_subset nd λx hx=>(hm x).mp hx;have:=fw.1;omega
    ·have hl1:H1 l=none:=(bJ ha).free hl;have ems:=zx hm nd pm so;subst ems;exact q1 _ Hs1 _ (.only sm ((bJ ha).trans (bJ hl))) ⟨l,_,rfl,hl1,sm.free hl1,aF,_,rfl,RepL.ints _⟩
  |_=>cases e1
end
theorem vV{Γ:Ct}{H:Hp}{f:Str}:∀{ns:List Str}{ds:List D}{xs:List V}{d:D},RepL Γ H ds xs->Cp f ns ds=some d->∃v,(ns.zip xs).lookup f=some v/\bI Γ H d v
 |[],ds,xs,d,_,e=>by cases ds <;> cases e
 |n::ns,[],xs,d,_,e=>by cases e
 |n::ns,d0::ds,xs,d,r,e=>by
  obtain⟨x,r',rfl,q,t⟩:=aK.mp r;unfold Cp at e;rw[zip_cons_cons,lookup_cons];cases h:(f == n) with
  |true=>rw[h] at e;rw[if_pos rfl] at e;cases e;exact⟨x,rfl,q⟩
  |false=>rw[h] at e;rw[if_neg Bool.false_ne_true] at e;exact vV t e
theorem gm{m:Str}:∀{ns:List Str}{xs:List V},ns.contains m=false->(ns.zip xs).lookup m=none
 |[],xs,_=>by cases xs <;> rfl
 |n::ns,[],_=>rfl
 |n::ns,x::xs,h=>by
  rw[List.contains_cons,Bool.or_eq_false_iff] at h;rw[zip_cons_cons,lookup_cons,h.1];exact gm h.2
section
variable{X:Cx}{Γ:Ct}{W:XW}{e o:Vd}{es:List Vd}{g go:ME}{gs:List ME}{f m x:Str}{p pos apos:Pos}
theorem dc{cs:List Vg}(hK:X.K=Γ.K)(hC:∀c∈cs,iC Γ.K (Γ.cls c)/\b0 Γ.K (Γ.cls c) f)(he:PD X Γ W e g)(hb:attributeBase e f X.env (eval e X.env)=eval e X.env:=by rfl):PD X Γ W (.Attribute e f pos) (dH (cS cs f) g):=
 PE.imp (oR he hb) λ_ _ σ H Q _ ⟨B0,B1,Hs,ρ,r,re,e,q⟩=>by
  refine(bu (k:=cS cs f) re e q).mono λv H1 ⟨Hs1,d,g1,re1,rp,e1,q1⟩=>?_;cases d with
  |obj c ns ds=>
   unfold cS at e1;by_cases hc:cs.contains c=true
   ·simp only[if_pos hc] at e1;cases hf:Cp f ns ds with
    |none=>rw[hf] at e1;cases e1
    |some d'=>
     rw[hf] at e1;cases e1;obtain⟨a,dx,xs,rfl,ea,rl⟩:=jT.mp rp;obtain⟨v',hl,rv⟩:=vV rl hf;obtain⟨c1,c2⟩:=hC c (by simpa using hc)
     exact⟨a,_,dx,_,v',rfl,re1.b.i _ _ ea,hK▸c1,hK▸c2,hl,q1 v' Hs1 H1 (.refl re1.b.i) (cW.of rv)⟩
   ·simp only[if_neg hc] at e1;cases e1
  |_=>cases e1
end
def gw(P:Va)(w:Vb)(K:Frag)(mg:Str->Option Q7)(base:Vc)(Γ:Ct)(k:Nat)(m:Str)(ps:List Str)(F:List D->Option R)(cs:List Vg):Prop:=
 ∃f fd,eI P w K mg base kA k f fd ps (CN Γ W0 F)/\fZ K fd ps []/\∀c∈cs,iC K (Γ.cls c)/\CL K (Γ.cls c) m f
def zh(X:Cx)(Γ:Ct)(m:Str)(tb:Vg->Option (List D->Option R)):Prop:=
 ∀c F,tb c=some F->∃k ps cs,c∈cs/\gw X.prog X.w X.K X.mg X.base Γ k m ps F cs/\cg k X.A
def ur:Vg->Option (List D->Option R):=λ_=>none
def GR(cs:List Vg)(F:List D->Option R)(t:Vg->Option (List D->Option R)):Vg->Option (List D->Option R):=λc=>if cs.contains c=true then some F else t c
section
variable{X:Cx}{Γ:Ct}{e o:Vd}{es:List Vd}{g go:ME}{gs:List ME}{f m x:Str}{p pos apos:Pos}{tb:Vg->Option (List D->Option R)}
theorem gy:zh X Γ m ur:=λ_ _ h=>nomatch h
theorem eJ{k:Nat}{ps:List Str}{F:List D->Option R}{cs:List Vg}(h:gw X.prog X.w X.K X.mg X.base Γ k m ps F cs)(r:cg k X.A)(t:zh X Γ m tb):zh X Γ m (GR cs F tb):=λc G e=>by
 unfold GR at e;by_cases hc:cs.contains c=true
 ·rw[if_pos hc] at e;cases e;exact⟨k,ps,cs,by simpa using hc,h,r⟩
 ·rw[if_neg hc] at e;exact t c G e
theorem xO{d:D}{ρ:aA}{r:R} (h:(match d with
 |.obj c ns ds=>if ns.contains m=true then none else(match tb c with
  |some F=>cZ gs ρ λvs=>F (.obj c ns ds::vs)
  |none=>none)
 |_=>none)=some r):∃c ns ds F,d=.obj c ns ds/\ns.contains m=false/\tb c=some F/\cZ gs ρ (λvs=>F (.obj c ns ds::vs))=some r:=by
 cases d with
 |obj c ns ds=>
  dsimp only at h;cases hn:ns.contains m with
  |true=>rw[hn,if_pos rfl] at h;cases h
  |false=>
   rw[hn,if_neg Bool.false_ne_true] at h;cases ht:tb c with
   |none=>rw[ht] at h;cases h
   |some F=>rw[ht] at h;exact⟨c,ns,ds,F,rfl,hn,ht,h⟩
 |_=>cases h
theorem eR{pl:Sem Bool}(T:zh X Γ m tb)(he:PD X Γ W0 o go)
  (ht:eval (.Call (.Attribute o m apos) [] [] pos) X.env=(do
   let ov <-eval o X.env
   standAt apos.atName
   let (f,first) <-holding [ov] (getMethod ov m pl)
   callWith pos f first (backTo pos (starEach [] X.env)) (backToKw pos (keywordEach [] X.env))):=by rfl):
  PD X Γ W0 (.Call (.Attribute o m apos) [] [] pos) (eF m tb go []):=by
 intro pins s σ H Q I ⟨B0,B1,Hs,ρ,r,re,e0,q⟩;refine PySem.W.methodCall_KW (pl:=pl) (cA (he pins s σ H _ I (bu re e0 q)) λu s1 ⟨x,H1,I1,rx,Hs1,d,g1,re1,rp,e1,q1⟩=>?_) ht;obtain⟨c,ns,ds,F,rfl,hn,htb,e2⟩:=xO e1;obtain⟨a,dx,xs,rfl,ea,rl⟩:=jT.mp rp;obtain rfl:u=Value.ref a:=rx;obtain⟨k,ps,cs,hc,⟨f,fd,G,hb,hcs⟩,hr⟩:=T c F htb;obtain⟨c1,c2⟩:=hcs c hc;refine pw I1 (re1.b.i _ _ ea) c1 c2 (gm hn) ?_;exact PySem.W.callWith_K0 (first:=[.ref a]) I1.kIn c2.kp (wQ (E:=E0) (dvs:=[]) (us:=[.ref a]) (vs:=[.ref a]) G hr hb .nil va I1 (.cons rfl .nil) ⟨Hs1,[.obj c ns ds],r,re1.b.i,.cons rp .nil,e2,q1,re1.tb⟩)
end
structure zk(a:Q9)(Hs H Hs' H':Hp):Prop where
 s:aj Hs Hs'
 h:∀b o,b≠a->H b=some o->H' b=some o
 i:aj Hs' H'
 n:∀b o,Hs' b=some o->Hs b=some o\/H b=none
section
variable{X:Cx}{Γ:Ct}{st:Ve}{rest:List Ve}{g h:MG}{e o:Vd}{es:List Vd}{ge:ME}{gs:List ME}{f m x y:Str}{p px pos pos' apos cpos:Pos}{k:Nat}{c:Vg}{ps:List Str}{F:F3}
theorem pO:∀(gs:List ME){B0 B1 Hs H:Hp}{σ:L2.St}{ρ:aA}{ds:List D},RE Γ B0 B1 Hs H σ ρ->fD gs ρ=some ds->pP Γ W0 gs σ H (λvs H1=>∃Hs1,bt Hs H Hs1 H1/\RepL Γ Hs1 ds vs)
 |[],B0,B1,Hs,H,σ,ρ,ds,re,e=>by
  cases e;exact⟨Hs,.refl re.b.i,.nil⟩
 |g::gs,B0,B1,Hs,H,σ,ρ,ds,re,e=>by
  unfold fD at e;split at e
  ·rename_i s hs;cases z:fD gs ρ with
   |none=>rw[z] at e;cases e
   |some ds'=>
    rw[z] at e;cases e;refine⟨B0,B1,Hs,ρ,_,re,hs,λv Hs' H' g' rs=>?_⟩;obtain⟨Hs2,g2,_,rp⟩:=rs.share g';refine eG gs (λvs H2 ⟨Hs3,g3,rl⟩=>?_) (pO gs (re.grow g2) z);exact⟨Hs3,g2.trans g3,.cons (rp.mono g3.s) rl⟩
  ·cases e
end
section
variable{X:Cx}{Γ:Ct}{W:XW}{i:Nat}{x:Str}{e ek:Vd}{ge gk:ME}{px tpos pos:Pos}
theorem HU{n j:Nat}{k:Int}(h:AF n k=some j):DW n k=some j:=h
theorem uX(hv:PE X (.Name x px) (mL i))(hk:PD X Γ W ek gk)(he:PD X Γ W e ge)
  (ha:∀v,assign (.Subscript (.Name x px) ek tpos) X.env v=(do
   let ov <-holding [v] (eval (.Name x px) X.env);let iv <-holding [v,ov] (eval ek X.env)
   standAt tpos
   holding [v,ov,iv] (setItem ov iv v)
   release [v,ov,iv] []):=by intro _;rfl)
  (hs:swapsWithSole [.Subscript (.Name x px) ek tpos] e pos.line X.env=pure false:=by rfl) (hw:swappedStores [.Subscript (.Name x px) ek tpos] e X.env=pure none:=by rfl)
  (h1:(assignEach [.Subscript (.Name x px) ek tpos] X.env).map (·.2)=[assign (.Subscript (.Name x px) ek tpos) X.env]:=by rfl):ox X Γ W (.Assign [.Subscript (.Name x px) ek tpos] e pos) (lU i gk ge):=
 PS.imp (Fu he (Fy hv hk Bc ha) hs hw h1) λpins s σ H En I ⟨B0,B1,Hs,ρ,o,re,eo,q⟩=>by
  refine(wG re eo q).mono λy H1 ⟨Hs1,s,g1,rs,e5⟩=>?_;obtain⟨Hs2,g2,_,rp⟩:=rs.share g1;obtain⟨ds,hd,e6⟩:=mS e5;have re2:=re.grow g2;obtain⟨a,ho,f1,f2,f3,f4,xs,rfl,rl⟩:=re2.own i _ hd;refine⟨.ref a,f1,(wG re2 e6 (q.from g2.s)).mono λz H3 ⟨Hs3,sz,g3,rz,e7⟩=>?_⟩;obtain⟨Hs4,g4,_,rzp⟩:=rz.share g3;cases hz:sz.val with
  |int j=>
   rw[hz] at e7 rzp;dsimp only at e7;cases hx:AF ds.length j with
   |none=>rw[hx] at e7;cases e7
   |some n=>
    rw[hx] at e7;cases e7;refine⟨a,xs,j,n,rfl,ah.mp rzp,g4.h _ _ f4,by rw[<-rl.length];exact HU hx,?_⟩
    exact q σ Hs4 _ (g2.s.trans g4.s) ((re2.grow g4).write hd f1 ⟨_,rfl,(rl.mono g4.s).set (rp.mono g4.s) n⟩)
  |_=>rw[hz] at e7;cases e7
end
structure di(K:Frag)(cls:Vg->Q9)(m qual:Str)(st:Ve)(ps:List Str)(cs:List Vg):Prop where
 ex:∃f fd,wx K m qual st f fd/\fZ K fd ps []/\∀c∈cs,iC K (cls c)/\CL K (cls c) m f
structure zi(K:Frag)(mg:Str->Option Q7)(cls:Vg->Q9)(c:Vg)(x qual:Str)(st:Ve)(ps:List Str):Prop where
 ex:∃f fd,wx K "__init__" qual st f fd/\fZ K fd ps []/\Mk K (cls c) f/\findCls K (.ref (cls c)) (.type "type") "__init__" = some (.val (.ref f))
 at_:mg x=some (.ref (cls c))
 sp:specialIn K (.ref (cls c)) "__getattribute__" = some (some (.builtin "type.__getattribute__"))
 rd:readsIn K (cls c) (.type "type")=true
section
variable{P:Va}{w:Vb}{K:Frag}{mg:Str->Option Q7}{base:Vc}{Γ:Ct}
theorem ka{x qual:Str}{st:Ve}{N ps:List Str}{k:Nat}{g:MC}{cs:List Vg}(L:di K Γ.cls x qual st ps cs)(S:aE N ps (aa st))
  (body:∀(f:Q9)(cdv:Q7)(A:Vf)(outer:List PySem.Env)(s:Q8)(H:Hp)(E:XK),cg k (A.deeper (envOfC qual (aa st) s.heap.objs.size f cdv))->iV (jP kA P w K mg base N qual (aa st) f cdv A outer s H E).nox Γ W0 (ao st) g):
  gw P w K mg base Γ (k+1) x ps (kH ps.length N.length g) cs:=by
 obtain⟨f,fd,F,hb,hc⟩:=L.ex;exact⟨f,fd,E7 F S (body f),hb,hc⟩
theorem dz{cls:Vg->Q9}{x qual:Str}{st:Ve}{ps:List Str}{f:Q9}{oc:Q7}{od an:Option Q9}{osl:Array (Option Q7)}{kV doc pm cdv ct:Q7}{cs:List Vg}
  (l:K.lookup f=some ⟨oc,od,.func (fnOf x qual (aI st) (ao st) (aa st) .none kV doc pm an cdv ct),osl⟩) (c:codeIn K cdv qual=true) (k:keepIn K (.ref f)=true) (i:isFn K (.ref f)=true)
  (hb:∀(kV doc pm:Q7)(an:Option Q9)(cdv ct:Q7)(us:List Q7),us.length=ps.length->bindArgs (fnOf x qual (aI st) (ao st) (aa st) .none kV doc pm an cdv ct) ⟨us,[]⟩=pure (ps.zip us))
  (hc:∀c∈cs,iC K (cls c)/\findIn K (.ref (cls c)) x=some (some (.ref f))):di K cls x qual st ps cs:=
 ⟨f,_,n9 l c k,(n9 l c k).binds hb,λc h=>⟨(hc c h).1,(hc c h).2,i,k⟩⟩
theorem C3{h:Vc}(X:K.In h)(G:h.Ns mainGlobals mg){cls:Vg->Q9}{cn:Vg}{C:Q9}(ec:cls cn=C){x qual:Str}{st:Ve}{ps:List Str}{f:Q9}{oc:Q7}{od an:Option Q9}{osl:Array (Option Q7)}{kV doc pm cdv ct:Q7}
  (a:nsIn K mainGlobals x=some (some (.ref C))) (fi:findIn K (.ref C) "__init__" = some (some (.ref f)))
  (l:K.lookup f=some ⟨oc,od,.func (fnOf "__init__" qual (aI st) (ao st) (aa st) .none kV doc pm an cdv ct),osl⟩) (c:codeIn K cdv qual=true) (k:keepIn K (.ref f)=true) (i:isFn K (.ref f)=true)
  (mk:makesIn K C=true) (kc:keepIn K (.ref C)=true) (fc:findCls K (.ref C) (.type "type") "__init__" = some (.val (.ref f)))
  (sp:specialIn K (.ref C) "__getattribute__" = some (some (.builtin "type.__getattribute__"))) (rd:readsIn K C (.type "type")=true)
  (hb:∀(kV doc pm:Q7)(an:Option Q9)(cdv ct:Q7)(us:List Q7),us.length=ps.length->bindArgs (fnOf "__init__" qual (aI st) (ao st) (aa st) .none kV doc pm an cdv ct) ⟨us,[]⟩=pure (ps.zip us)):zi K mg cls cn x qual st ps:=by
 subst ec;exact⟨⟨f,_,n9 l c k,(n9 l c k).binds hb,⟨mk,fi,i,kc⟩,fc⟩,mg_of X G a,sp,rd⟩
end
theorem d7{α:Type}{p:α->Prop}:∀c∈([]:List α),p c:=λ_ h=>nomatch h
theorem all_cons{α:Type}{p:α->Prop}{a:α}{l:List α}(h:p a)(t:∀c∈l,p c):∀c∈a::l,p c:=λc hc=>by
 rcases mem_cons.mp hc with rfl|h'
 ·exact h
 ·exact t c h'
def CD:List (Vg×Q9)->Vg->Q9
 |[],_=>0
 | (c,a)::r,s=>if s=c then a else CD r s
theorem Ep{c:Vg}{a:Q9}{r:List (Vg×Q9)}:CD ((c,a)::r) c=a:=by unfold CD;rw[if_pos rfl]
section
variable{Γ:Ct}{B0 B1 Hs H Hs' H':Hp}{σ:L2.St}{ρ:aA}{a:Q9}{o o':O}{ho ho':HO}
theorem cQ.core(h:cQ Γ Hs a o ho):cQ Γ Hs a o.core ho:=by
 cases o with
 |par b u=>exact h.2
 |_=>exact h
theorem cQ.put(h:cQ Γ Hs a o ho)(h':cQ Γ Hs' a o' ho'):cQ Γ Hs' a (o.put o') ho':=by
 cases o with
 |par b u=>exact⟨h.1,h'⟩
 |_=>exact h'
theorem RE.called(r:RE Γ B0 B1 Hs H σ ρ){i:Nat}(e:ρ[i]?=some (some (.own o)))(ea:σ[i]?=some (some (.ref a)))(g:zk a Hs H Hs' H')(hs:Hs' a=none)(hh:H' a=some ho')(q:cQ Γ Hs' a o' ho'):RE Γ B0 B1 Hs' H' σ (ρ.set i (some (.own o'))):=by
 obtain⟨c,hc,e1,e2,e3,e4,_⟩:=r.own i o e;rw[ea] at e1;cases e1;have hi:i<ρ.length:=(List.getElem?_eq_some_iff.mp e).1;have old:∀(j:Nat)(u:O),(ρ.set i (some (.own o')))[j]?=some (some (.own u))->∃u',ρ[j]?=some (some (.own u')):=λj u hj=>by
  by_cases h:i=j
  ·subst h;exact⟨o,e⟩
  ·rw[getElem?_set_ne h] at hj;exact⟨u,hj⟩
 refine⟨⟨r.b.s.trans g.s,λb u z=>g.h b u (bc z e2) (r.b.h b u z),g.i,λb u z=>?_⟩,λj d hj=>?_,λj u hj=>?_,λj k u u' c hjk hj hk ha=>?_,by rw[length_set,r.len],r.tb.trans g.s⟩
 ·rcases g.n b u z with z|z
  ·exact r.b.n b u z
  ·exact .inr (r.b.h.free z)
 ·by_cases h:i=j
  ·subst h;rw[getElem?_set_self hi] at hj;cases hj
  ·rw[getElem?_set_ne h] at hj;obtain⟨v,f1,f2⟩:=r.sh j d hj;exact⟨v,f1,f2.mono g.s⟩
 ·by_cases h:i=j
  ·subst h;rw[getElem?_set_self hi] at hj;cases hj;exact⟨a,ho',ea,e2,hs,hh,q⟩
  ·rw[getElem?_set_ne h] at hj;obtain⟨c,hc,f1,f2,f3,f4,f5⟩:=r.own j u hj;have hne:c≠a:=λz=>by subst z;exact r.apart i j o u c h e hj ea f1
   refine⟨c,hc,f1,f2,?_,g.h c hc hne f4,f5.mono g.s⟩;cases z:Hs' c with
   |none=>rfl
   |some w=>
    rcases g.n c w z with z'|z'
    ·rw[f3] at z';cases z'
    ·rw[f4] at z';cases z'
 ·obtain⟨w,hj'⟩:=old j u hj;obtain⟨w',hk'⟩:=old k u' hk;exact r.apart j k w w' c hjk hj' hk' ha
end
inductive tM(Γ:Ct)(g:MP)(σ:L2.St)(H:Hp)(Q:VK):Prop
 |mk (B0 B1 Hs:Hp) (ρ:aA) (d:D) (ρ':aA) (re:RE Γ B0 B1 Hs H σ ρ) (e:g ρ=some (d,ρ')) (q:∀v Hs' H',aj Hs Hs'->RE Γ B0 B1 Hs' H' σ ρ'->bI Γ Hs' d v->Q v H')
abbrev PM(X:Cx)(Γ:Ct)(e:Vd)(g:MP):Prop:=PE X e (tM Γ g)
inductive JM(Γ:Ct)(F:MF)(vs:List V)(H:Hp)(Q:VK):Prop
 |mk (a:Q9) (xs ys:List V) (Hs:Hp) (o:O) (ho:HO) (ds es:List D) (d:D) (o':O) (ev:vs=xs++.ref a::ys) (sm:aj Hs H) (hs:Hs a=none) (hh:H a=some ho) (ro:cQ Γ Hs a o ho) (r1:RepL Γ Hs ds xs) (r2:RepL Γ Hs es ys) (e:F o ds es=some (d,o'))
  (q:∀v Hs' H' ho',zk a Hs H Hs' H'->Hs' a=none->H' a=some ho'->cQ Γ Hs' a o' ho'->bI Γ Hs' d v->Q v H') (tb:aj Γ.tb Hs)
def J1(Γ:Ct)(F:MF):Sp:=λvs H Q _=>JM Γ F vs H Q
section
variable{X:Cx}{Γ:Ct}{k i:Nat}{ps:List Str}{x:Str}{p pos:Pos}{e:Vd}{es:List Vd}{gs hs:List ME}{F:MF}
theorem xx{ρ ρ':aA}{d:D}(h:yE i F gs hs ρ=some (d,ρ')):∃o ds es o',ρ[i]?=some (some (.own o))/\fD gs ρ=some ds/\fD hs ρ=some es/\F o.core ds es=some (d,o')/\ρ'=ρ.set i (some (.own (o.put o'))):=by
 unfold yE at h;split at h
 ·rename_i o ho;cases h1:fD gs ρ with
  |none=>rw[h1] at h;cases h
  |some ds=>
   cases h2:fD hs ρ with
   |none=>rw[h1,h2] at h;cases h
   |some es=>
    cases h3:F o.core ds es with
    |none=>rw[h1,h2] at h;simp only[Option.bind_some,h3] at h;cases h
    |some q=>
     rw[h1,h2] at h;simp only[Option.bind_some,h3] at h;cases h;exact⟨o,ds,es,q.2,ho,rfl,rfl,h3,rfl⟩
 ·cases h
variable{a b:Vd}{g:MP}{gb:ME}
end
section
variable{X:Cx}{Γ:Ct}{W:XW}{e:Vd}{g:MP}{ge:ME}{pos pos':Pos}{i j:Nat}{x:Str}
theorem cR(he:PD X Γ W e ge):ox X Γ W (.Return (some e) pos) (gE j ge):=PS.imp (wW he) λpins s σ H D I ⟨B0,B1,Hs,ρ,o,re,e,q⟩=>by
 refine(wG re e q).mono λv H1 ⟨Hs1,s,g1,rs,e1⟩=>?_;split at e1
 ·rename_i a u hd;cases e1;obtain⟨Hs2,g2,_,rp⟩:=rs.share g1;obtain⟨c,ho,f1,f2,f3,f4,f5⟩:=re.own j _ hd;have f6:c=a/\cQ Γ Hs c u ho:=f5;obtain⟨z,f7⟩:=f6;subst z;exact q v Hs2 H1 g2.s (re.b.trans g2) ⟨rp,ho,g2.none f3 f4,g2.h _ _ f4,f7.mono g2.s⟩
 ·cases e1
end
def zI(H:Hp)(a:Q9):Hp:=λb=>if b=a then none else H b
theorem qQ{H:Hp}{a:Q9}:zI H a a=none:=if_pos rfl
theorem sI{H:Hp}{a b:Q9}(h:b≠a):zI H a b=H b:=if_neg h
theorem B6{N:List Str}{xs ys:List V}{u v:V}:(L2.start N (xs++u::ys)).set xs.length (some v)=L2.start N (xs++v::ys):=by
 unfold L2.start;rw[map_append,map_append,map_cons,map_cons,append_assoc,append_assoc];have:(List.map some xs).length=xs.length:=length_map ..;rw[<-this,List.set_append_right _ _ (le_refl _),sub_self];simp
theorem zK{Γ:Ct}{Hs H:Hp}{N:List Str}{a:Q9}{o:O}{ho:HO}{ds es:List D}{xs ys:List V}(sm:aj Hs H)(hs:Hs a=none)(hh:H a=some ho)(ro:cQ Γ Hs a o ho)(r1:RepL Γ Hs ds xs)(r2:RepL Γ Hs es ys)(tb:aj Γ.tb Hs)(hN:ds.length<N.length):
  RE Γ Hs (zI H a) Hs H (L2.start N (xs++.ref a::ys)) (kR N.length a o ds es):=by
 have rl:RepL Γ Hs (ds++.non::es) (xs++.non::ys):=r1.append (.cons (bw.mpr rfl) r2);have r0:=uT (N:=N) sm rl tb;have no:∀(i:Nat)(u:O),(eM N.length (ds++.non::es))[i]?≠some (some (.own u)):=λi u e=>by
  unfold eM at e;by_cases hi:i<(ds++D.non::es).length
  ·rw[List.getElem?_append_left (by simpa using hi),getElem?_map,getElem?_eq_getElem hi] at e
   cases e
  ·rw[List.getElem?_append_right (by simpa using hi),List.getElem?_replicate] at e
   split at e <;> cases e
 have r1':RE Γ Hs (zI H a) Hs H (L2.start N (xs++.non::ys)) (eM N.length (ds++.non::es)):=by
  refine⟨⟨.refl _,λb u z=>?_,sm,λb u z=>.inl z⟩,r0.sh,λi u e=>absurd e (no i u),r0.apart,r0.len,r0.tb⟩;by_cases hb:b=a
  ·subst hb;rw[qQ] at z;cases z
  ·rw[sI hb] at z;exact z
 have hl:ds.length<(L2.start N (xs++.non::ys)).length:=by
  rw[<-r0.len];unfold eM;rw[length_append,length_map,length_append,length_cons];omega
 have r2':=r1'.setOwn (i:=ds.length) (o:=.par a o) (a:=a) (ho:=ho) hl qQ hs hh ⟨rfl,ro⟩ λj u _ e=>absurd e (no j u);rw[r1.length,B6,<-r1.length] at r2';exact r2'
section
variable{P:Va}{w:Vb}{K:Frag}{mg:Str->Option Q7}{base:Vc}{Γ:Ct}
theorem vN{Hs H Hs' H':Hp}{a:Q9}(g:bt Hs (zI H a) Hs' H')(hs:Hs' a=none):zk a Hs H Hs' H':=
 ⟨g.s,λb u hb z=>g.h b u (by rw[sI hb];exact z),g.i,λb u z=>by
  have hb:b≠a:=bc z hs;rcases g.n b u z with y|y
  ·exact .inl y
  ·rw[sI hb] at y;exact .inr y⟩
theorem E4{x qual:Str}{st:Ve}{f:Q9}{fd:FuncData}{N ps:List Str}{k:Nat}{sp:Sp}(F:wx K x qual st f fd)(S:aE N ps (aa st))(len:∀vs H Q E,sp vs H Q E->vs.length=ps.length)
  (hbody:∀(cdv:Q7),fd.code=cdv->∀(A:Vf)(outer:List PySem.Env)(s:Q8)(H:Hp)(vs:List V)(Q:VK)(E:XK),cg k (A.deeper (envOfC qual (aa st) s.heap.objs.size f cdv))->sp vs H Q E->
   ∃t,nv (jP kA P w K mg base N qual (aa st) f cdv A outer s H E).nox (ao st) t/\t {nx:=λ_ H'=>Q .non H',rt:=Q} (start N vs) H):eI P w K mg base kA (k+1) f fd ps sp:=by
 obtain⟨oc,od,kV,doc,pm,an,cdv,ct,osl,rfl,lk,hcd⟩:=F.ex;refine EX lk hcd S len λA outer s H vs Q E hr hsp=>?_;obtain⟨t,h,q⟩:=hbody cdv rfl A outer s H vs Q E hr hsp;exact⟨t,h.nox,q⟩
theorem Ia{x qual:Str}{st:Ve}{f:Q9}{fd:FuncData}{N ps:List Str}{k j:Nat}{g:MC}(F:wx K x qual st f fd)(S:aE N ps (aa st))(hN:ps.length<=N.length)
  (body:∀(cdv:Q7),fd.code=cdv->∀(A:Vf)(outer:List PySem.Env)(s:Q8)(H:Hp)(E:XK),cg k (A.deeper (envOfC qual (aa st) s.heap.objs.size f cdv))->iV (jP kA P w K mg base N qual (aa st) f cdv A outer s H E).nox Γ W0 (ao st) g):
  eI P w K mg base kA (k+1) f fd ps (J1 Γ (A9 j ps.length N.length g)):=by
 refine E4 F S (λvs H Q E ⟨a,xs,ys,Hs,o,ho,ds,es,d,o',ev,sm,hs,hh,ro,r1,r2,e,q,tb⟩=>?_) (λcdv hcd A outer s H vs Q E hr ⟨a,xs,ys,Hs,o,ho,ds,es,d,o',ev,sm,hs,hh,ro,r1,r2,e,q,tb⟩=>?_)
 ·obtain⟨h1,h2,_⟩:=vT e;rw[ev,length_append,length_cons,<-r1.length,<-r2.length];omega
 ·obtain⟨h1,h2,h3⟩:=vT e;have h3:=h3 a;subst ev;refine⟨tS Γ W0 g,body cdv hcd A outer s H E hr,?_⟩;have re:=zK (N:=N) sm hs hh ro r1 r2 tb (by omega)
  cases h:g (kR N.length a o ds es) with
  |none=>rw[h] at h3;cases h3
  |some out=>
   rw[h] at h3;refine⟨Hs,zI H a,Hs,kR N.length a o ds es,out,re,h,?_⟩;cases out with
   |next ρ'=>
    intro σ' Hs' H' _ re';unfold m9 at h3;dsimp only at h3;split at h3
    ·rename_i b u hd;split at h3
     ·rename_i hba;subst hba;cases h3;obtain⟨c,ho',f1,f2,f3,f4,f5⟩:=re'.own j _ hd;have f6:c=b/\cQ Γ Hs' c o' ho':=f5;obtain⟨z,f7⟩:=f6;subst z;exact q .non Hs' H' ho' (vN re'.b f3) f3 f4 f7 (bw.mpr rfl)
     ·cases h3
    ·cases h3
   |brk ρ'=>cases h3
   |cont ρ'=>cases h3
   |ret s=>
    cases s with
    |sh _=>cases h3
    |own _=>cases h3
    |thr _ _ _ _ _=>cases h3
    |two d1 b o1=>
     unfold m9 at h3;dsimp only at h3;split at h3
     ·rename_i hba;subst hba;cases h3;intro v Hs' H' _ g' rs;obtain⟨rp,ho',z1,z2,z3⟩:=rs;exact q v Hs' H' ho' (vN g' z1) z1 z2 z3 rp
     ·cases h3
   |exc x=>cases h3
theorem Jx{x qual:Str}{st:Ve}{f:Q9}{fd:FuncData}{N ps:List Str}{k j:Nat}{g:MC}(F:wx K x qual st f fd)(S:aE N ps (aa st))(hN:ps.length<=N.length)
  (body:∀(cdv:Q7)(A:Vf)(outer:List PySem.Env)(s:Q8)(H:Hp)(E:XK),cg k (A.deeper (envOfC qual (aa st) s.heap.objs.size f cdv))->iV (jP kA P w K mg base N qual (aa st) f cdv A outer s H E).nox Γ W0 (ao st) g):
  eI P w K mg base kA (k+1) f fd ps (J1 Γ (A9 j ps.length N.length g)):=Ia F S hN λcdv _=>body cdv
end
end L3
namespace L2
open PySem PySem.Spec PyProof.Rows
section
variable{X:Cx}{pins:List (Q9×Obj)}{σ:List (Option V)}{H H':Hp}{s:Q8}{a:Q9}{u:HO}{T:List (Q9×List V)}
theorem aD.rehok(I:aD X pins σ H s)(dom:∀b,H b=none->H' b=none)(tp:∀b xs,H b=some (.tup xs)->H' b=some (.tup xs))(fz:∀b o u,H b=some (.frz o u)->H' b=some (.frz o u))(tb:∀b ps,H b=some (.tbl ps)->H' b=some (.tbl ps))(ok:nZ X.prog X.w H' s.heap):aD X pins σ H' s:=
 ⟨I.ok,I.os,I.bare,⟨I.base.keep,I.base.slot,λb o h1 h2 h3=>dom b (I.base.free b o h1 h2 h3),I.base.there,λb xs h=>tp _ _ (I.base.tups b xs h),λb o u h=>fz _ _ _ (I.base.frzs b o u h),λb ps h=>let ⟨m,e⟩:=I.base.tbls b ps h;⟨m,tb _ _ e⟩⟩,I.loc,I.cell,dom _ I.free,λx c h=>dom _ (I.freeC x c h),λp hp=>let ⟨h1,h2,h3⟩:=I.pin p hp;⟨h1,dom _ h2,h3⟩,ok,I.len⟩
def bj(a:Q9)(u:HO)(T:List (Q9×List V)):Hp:=λb=>if b=a then some u else(T.lookup b).map .lst
def iJ(M H:Hp):Hp:=λb=>match M b with|some o=>some o|none=>H b
theorem aP{M H:Hp}{b:Q9}{o:HO}(h:M b=some o):iJ M H b=some o:=by unfold iJ;rw[h]
theorem ay{M H:Hp}{b:Q9}(h:M b=none):iJ M H b=H b:=by unfold iJ;rw[h]
def zH(M H:Hp):Hp:=λb=>match M b with|some _=>none|none=>H b
theorem kX{M H:Hp}{b:Q9}{o:HO}(h:M b=some o):zH M H b=none:=by unfold zH;rw[h]
theorem dF{M H:Hp}{b:Q9}(h:M b=none):zH M H b=H b:=by unfold zH;rw[h]
theorem cD:∀{T:List (Q9×List V)}{b:Q9}{xs:List V},T.lookup b=some xs->(b,xs)∈T
 |[],_,_,h=>nomatch h
 | (c,ys)::T,b,xs,h=>by
  rw[lookup_cons] at h;split at h
  ·rename_i z;cases h;rw[eq_of_beq z];exact mem_cons_self
  ·exact mem_cons_of_mem _ (cD h)
theorem aX:∀{T:List (Q9×List V)}{b:Q9}{xs:List V},(T.map (·.1)).Nodup->(b,xs)∈T->T.lookup b=some xs
 |[],_,_,_,h=>nomatch h
 | (c,ys)::T,b,xs,nd,h=>by
  rw[map_cons,nodup_cons] at nd;rcases mem_cons.mp h with e|h
  ·cases e;simp[List.lookup]
  ·have:b≠c:=λz=>nd.1 (by rw[<-z];exact mem_map.mpr ⟨_,h,rfl⟩)
   rw[lookup_cons,beq_false_of_ne this];exact aX nd.2 h
theorem dy:bj a u T a=some u:=if_pos rfl
theorem ba{b:Q9}(h:b≠a):bj a u T b=(T.lookup b).map .lst:=if_neg h
def nY:HO->Prop
 |.lst _=>True
 |.ins _ _ _=>True
 |_=>False
theorem fU{b:Q9}{o:HO}(h:bj a u T b=some o):(b=a/\o=u)\/(b≠a/\∃xs,T.lookup b=some xs/\o=.lst xs):=by
 by_cases c:b=a
 ·subst c;rw[dy] at h;exact .inl ⟨rfl,(Option.some.inj h).symm⟩
 ·rw[ba c] at h;obtain⟨xs,h1,h2⟩:=Option.map_eq_some_iff.mp h;exact .inr ⟨c,xs,h1,h2.symm⟩
theorem oY{b:Q9}(h:bj a u T b=none):b≠a/\T.lookup b=none:=by
 by_cases c:b=a
 ·subst c;rw[dy] at h;cases h
 ·rw[ba c] at h;exact⟨c,Option.map_eq_none_iff.mp h⟩
theorem u0(I:aD X pins σ H s)(e:H a=some (.big u T)){b:Q9}{o:HO}(h:bj a u T b=some o):(b=a/\o=u)\/(b≠a/\H b=some (.own a)/\∃xs,(b,xs)∈T/\o=.lst xs):=by
 obtain⟨_,nd,f⟩:=(show bM X.prog X.w H s.heap a (.big u T) from I.hok a _ e);rcases fU h with z|⟨hb,xs,h1,h2⟩
 ·exact .inl z
 ·exact .inr ⟨hb,(f _ (cD h1)).2.1,xs,cD h1,h2⟩
theorem aD.opn(I:aD X pins σ H s)(e:H a=some (.big u T))(hr:nY u):aD X pins σ (iJ (bj a u T) H) s:=by
 obtain⟨q,nd,f⟩:=(show bM X.prog X.w H s.heap a (.big u T) from I.hok a _ e);have out:∀{c:Q9}{o:HO},H c=some o->(∀x,o≠.own x)->(∀v S,o≠.big v S)->bj a u T c=none:=λ{c o} h n1 n2=>by
  cases z:bj a u T c with
  |none=>rfl
  |some w=>
   rcases u0 I e z with⟨rfl,_⟩|⟨_,h2,_⟩
   ·rw[h] at e;exact(n2 _ _ (Option.some.inj e)).elim
   ·rw[h] at h2;exact(n1 _ (Option.some.inj h2)).elim
 have own:∀{c x:Q9},H c=some (.own x)->x≠a->bj a u T c=none:=λ{c x} h n=>by
  cases z:bj a u T c with
  |none=>rfl
  |some w=>
   rcases u0 I e z with⟨rfl,_⟩|⟨_,h2,_⟩
   ·rw[h] at e;cases e
   ·rw[h] at h2;cases h2;exact(n rfl).elim
 refine I.rehok (λb hb=>?_) (λb xs h=>by rw[ay (out h (λ_=>nofun) λ_ _=>nofun)];exact h) (λb o v h=>by rw[ay (out h (λ_=>nofun) λ_ _=>nofun)];exact h) (λb ps h=>by rw[ay (out h (λ_=>nofun) λ_ _=>nofun)];exact h) λb o h=>?_
 ·cases z:bj a u T b with
  |none=>rw[ay z];exact hb
  |some w=>
   rcases u0 I e z with⟨rfl,_⟩|⟨_,h2,_⟩
   ·rw[hb] at e;cases e
   ·rw[hb] at h2;cases h2
 ·cases z:bj a u T b with
  |some w=>
   rw[aP z] at h;cases h;rcases u0 I e z with⟨rfl,rfl⟩|⟨hb,h2,xs,hm,rfl⟩
   ·cases o with
    |lst xs=>exact q
    |ins C dx fs=>
     obtain⟨d1,d2,d3,d4,mA,d5,d6⟩:=q;refine⟨?_,d2,d3,d4,mA,d5,d6⟩;rw[ay ?_]
     ·exact d1
     ·rw[ba d3];cases y:T.lookup dx with
      |none=>rfl
      |some xs=>
       obtain⟨_,_,_,its,n,_,e1⟩:=f _ (cD y);obtain⟨od,es,ep,e2,e3⟩:=d5;rw[e1] at e2;cases e2;simp at e3
    |_=>exact hr.elim
   ·obtain⟨_,_,h3,its,n,r,e1⟩:=f _ hm;exact⟨h3,its,n,r,e1⟩
  |none=>
   rw[ay z] at h;refine(I.hok b o h).stay (λc v _ q=>q) (λc r=>?_) (λc xs r=>by rw[ay (out r (λ_=>nofun) λ_ _=>nofun)];exact r) λc ob v r=>by rw[ay (out r (λ_=>nofun) λ_ _=>nofun)];exact r
   rw[ay (own r (oY z).1)];exact r
def oq(a:Q9)(u:HO)(T:List (Q9×List V)):Hp:=λb=>if b=a then some (.big u T) else(T.lookup b).map λ_=>.own a
theorem pI:oq a u T a=some (.big u T):=if_pos rfl
theorem nk{b:Q9}(h:b≠a):oq a u T b=(T.lookup b).map λ_=>.own a:=if_neg h
theorem iB{b:Q9}:(oq a u T b=none↔bj a u T b=none):=by
 by_cases c:b=a
 ·subst c;rw[pI,dy];exact⟨nofun,nofun⟩
 ·rw[nk c,ba c,Option.map_eq_none_iff,Option.map_eq_none_iff]
theorem aD.cls(I:aD X pins σ H s)(hr:nY u)(nd:(T.map (·.1)).Nodup)(ha:∀p∈T,p.1≠a)(e:∀b o,bj a u T b=some o->H b=some o):aD X pins σ (iJ (oq a u T) H) s:=by
 have out:∀{c:Q9}{o:HO},H c=some o->(∀xs,o≠.lst xs)->(∀C d f,o≠.ins C d f)->oq a u T c=none:=λ{c o} h n1 n2=>by
  rw[iB];cases z:bj a u T c with
  |none=>rfl
  |some w=>
   have:=e _ _ z;rw[h] at this;cases this;rcases fU z with⟨_,rfl⟩|⟨_,xs,_,rfl⟩
   ·cases o with
    |lst xs=>exact(n1 _ rfl).elim
    |ins C d f=>exact(n2 _ _ _ rfl).elim
    |_=>exact hr.elim
   ·exact(n1 _ rfl).elim
 have lst:∀p∈T,bj a u T p.1=some (.lst p.2):=λp hp=>by rw[ba (ha p hp),aX nd hp];rfl
 refine I.rehok (λb hb=>?_) (λb xs h=>by rw[ay (out h (λ_=>nofun) λ_ _ _=>nofun)];exact h) (λb o v h=>by rw[ay (out h (λ_=>nofun) λ_ _ _=>nofun)];exact h) (λb ps h=>by rw[ay (out h (λ_=>nofun) λ_ _ _=>nofun)];exact h) λb o h=>?_
 ·cases z:oq a u T b with
  |none=>rw[ay z];exact hb
  |some w=>
   cases y:bj a u T b with
   |none=>rw[iB.mpr y] at z;cases z
   |some v=>rw[e _ _ y] at hb;cases hb
 ·cases z:oq a u T b with
  |some w=>
   rw[aP z] at h;cases h;by_cases c:b=a
   ·subst c;rw[pI] at z;cases z;refine⟨?_,nd,λp hp=>?_⟩
    ·have q:=I.hok b _ (e b u dy);cases u with
     |lst xs=>exact q
     |ins C dx fs=>
      obtain⟨d1,d2,d3,d4,mA,d5,d6⟩:=q;refine⟨?_,d2,d3,d4,mA,d5,d6⟩;rw[ay (out d1 (λ_=>nofun) λ_ _ _=>nofun)];exact d1
     |_=>exact hr.elim
    ·obtain⟨h3,its,n,r,e1⟩:=(show bM X.prog X.w H s.heap p.1 (.lst p.2) from I.hok _ _ (e _ _ (lst p hp)));exact⟨ha p hp,aP (by rw[nk (ha p hp),aX nd hp];rfl),h3,its,n,r,e1⟩
   ·rw[nk c] at z;obtain⟨xs,h1,h2⟩:=Option.map_eq_some_iff.mp z;subst h2;have y:bj a u T b=some (.lst xs):=by rw[ba c,h1];rfl
    obtain⟨_,its,n,r,e1⟩:=(show bM X.prog X.w H s.heap b (.lst xs) from I.hok _ _ (e _ _ y));exact⟨_,e1⟩
  |none=>
   rw[ay z] at h;refine(I.hok b o h).stay (λc v _ q=>q) (λc r=>?_) (λc xs r=>by rw[ay (out r (λ_=>nofun) λ_ _ _=>nofun)];exact r) λc ob v r=>by rw[ay (out r (λ_=>nofun) λ_ _ _=>nofun)];exact r
   rw[ay (out r (λ_=>nofun) λ_ _ _=>nofun)];exact r
end
section
variable{X:Cx}{e:Vd}{t:TE}
def JX(t:TE):TE:=λσ H Q=>∃a u T,H a=some (.big u T)/\nY u/\t σ (iJ (bj a u T) H) λv H'=>(∀b o,bj a u T b=some o->H' b=some o)/\Q v (iJ (oq a u T) H')
theorem Dy(h:PE X e t):PE X e (JX t):=by
 intro pins s σ H Q I ⟨a,u,T,ea,hr,q⟩;obtain⟨_,nd,f⟩:=(show bM X.prog X.w H s.heap a (.big u T) from I.hok a _ ea);exact cA (h pins s σ _ _ (I.opn ea hr) q) λw s' ⟨v,H',I2,r,e2,q2⟩=>⟨v,_,I2.cls hr nd (λp hp=>(f p hp).1) e2,r,q2⟩
end
end L2
namespace L3
open PySem PySem.Spec PyProof.Rows L2
mutual
def Tr.val:Tr->D
 |.sh d=>d
 |.lst ts=>.lst (Tr.vals ts)
 |.ins c ns ts=>.obj c ns (Tr.vals ts)
def Tr.vals:List Tr->List D
 |[]=>[]
 |t::ts=>t.val::Tr.vals ts
end
mutual
def jc:D->Bool
 |.non=>true
 |.bl _=>true
 |.int _=>true
 |.str _=>true
 |.tup ds=>cB ds
 |_=>false
def cB:List D->Bool
 |[]=>true
 |d::ds=>jc d && cB ds
end
mutual
theorem qP{Γ:Ct}{H H':Hp}(k:∀b o,H b=some o->(∀xs,o≠.lst xs)->(∀C d f,o≠.ins C d f)->H' b=some o):∀{d:D}{v:V},jc d=true->bI Γ H d v->bI Γ H' d v
 |.non,_,_,r=>by unfold bI at r ⊢;exact r
 |.bl _,_,_,r=>by unfold bI at r ⊢;exact r
 |.int _,_,_,r=>by unfold bI at r ⊢;exact r
 |.str _,_,_,r=>by unfold bI at r ⊢;exact r
 |.tup ds,_,t,r=>by
  unfold bI at r ⊢;unfold jc at t;obtain⟨a,xs,e1,q,r⟩:=r;refine⟨a,xs,e1,?_,kY k t r⟩;rcases q with(h|⟨o,h⟩)|h
  ·exact .inl (.inl (k _ _ h (λ_=>nofun) λ_ _ _=>nofun))
  ·exact .inl (.inr ⟨o,k _ _ h (λ_=>nofun) λ_ _ _=>nofun⟩)
  ·exact .inr h
 |.lst _,_,t,_=>by unfold jc at t;cases t
 |.obj _ _ _,_,t,_=>by unfold jc at t;cases t
 |.fn _ _,_,t,_=>by unfold jc at t;cases t
theorem kY{Γ:Ct}{H H':Hp}(k:∀b o,H b=some o->(∀xs,o≠.lst xs)->(∀C d f,o≠.ins C d f)->H' b=some o):∀{ds:List D}{vs:List V},cB ds=true->RepL Γ H ds vs->RepL Γ H' ds vs
 |[],_,_,r=>by unfold RepL at r ⊢;exact r
 |d::ds,_,t,r=>by
  unfold RepL at r ⊢;unfold cB at t;rw[Bool.and_eq_true] at t;obtain⟨x,r',e1,q,r2⟩:=r;exact⟨x,r',e1,qP k t.1 q,kY k t.2 r2⟩
end
mutual
theorem hU.view{Γ:Ct}{H H':Hp}(e:fY H H'):∀{t:Tr}{v:V}{T:List (Q9×List V)},hU Γ H t v T->(∀p∈T,H' p.1=some (.lst p.2))->bI Γ H' t.val v
 |.sh d,_,_,r,_=>by unfold hU at r;unfold Tr.val;exact r.2.monoX e
 |.lst ts,_,_,r,m=>by
  unfold hU at r;unfold Tr.val;obtain⟨l,vs,T',rfl,rfl,h3⟩:=r;exact aH.mpr ⟨l,vs,rfl,.of (m (l,vs) mem_cons_self),ai.view e h3 λp hp=>m p (mem_cons_of_mem _ hp)⟩
 |.ins _ _ _,_,_,r,_=>by unfold hU at r;exact r.elim
theorem ai.view{Γ:Ct}{H H':Hp}(e:fY H H'):∀{ts:List Tr}{vs:List V}{T:List (Q9×List V)},ai Γ H ts vs T->(∀p∈T,H' p.1=some (.lst p.2))->RepL Γ H' (Tr.vals ts) vs
 |[],_,_,r,_=>by unfold ai at r;unfold Tr.vals;rw[r.1];exact .nil
 |t::ts,_,_,r,m=>by
  unfold ai at r;unfold Tr.vals;obtain⟨v,r',T1,T2,rfl,rfl,h3,h4⟩:=r;exact .cons (hU.view e h3 λp hp=>m p (List.mem_append_left _ hp)) (ai.view e h4 λp hp=>m p (mem_append_right _ hp))
end
theorem jf.root{Γ:Ct}{H:Hp}{t:Tr}{u:HO}{T:List (Q9×List V)}(h:jf Γ H t u T):nY u:=by
 cases t with
 |sh _=>exact h.elim
 |lst ts=>obtain⟨xs,rfl,_⟩:=h;exact True.intro
 |ins c ns ts=>obtain⟨dx,xs,rfl,_⟩:=h;exact True.intro
theorem jf.view{Γ:Ct}{H H':Hp}(e:fY H H'){t:Tr}{u:HO}{T:List (Q9×List V)}{a:Q9}(h:jf Γ H t u T)(ha:H' a=some u)(m:∀p∈T,H' p.1=some (.lst p.2)):bI Γ H' t.val (.ref a):=by
 cases t with
 |sh _=>exact h.elim
 |lst ts=>obtain⟨xs,rfl,r⟩:=h;unfold Tr.val;exact aH.mpr ⟨a,xs,rfl,.of ha,r.view e m⟩
 |ins c ns ts=>obtain⟨dx,xs,rfl,r⟩:=h;unfold Tr.val;exact jT.mpr ⟨a,dx,xs,rfl,ha,r.view e m⟩
def f9(i:Nat)(ρ:aA):Option (O×Tr):=match ρ[i]? with
 |some (some (.own o))=>(match o.core with
  |.tre t=>some (o,t)
  |_=>none)
 |_=>none
theorem dQ{i:Nat}{ρ:aA}{o:O}{t:Tr}(h:f9 i ρ=some (o,t)):ρ[i]?=some (some (.own o))/\o.core=.tre t:=by
 unfold f9 at h;split at h
 ·rename_i u hu;split at h
  ·rename_i t' hk;cases h;exact⟨hu,hk⟩
  ·cases h
 ·cases h
def uh:R->Option R
 |.ok (.sh d)=>if jc d=true then some (.ok (.sh d)) else none
 |.ok (.own (.lst ds))=>if cB ds=true then some (.ok (.own (.lst ds))) else none
 |_=>none
def cj(i:Nat)(g:ME):ME:=λρ=>(f9 i ρ).bind λp=>(g (ρ.set i (some (.sh p.2.val)))).bind uh
section
variable{Γ:Ct}{B0 B1 Hs H:Hp}{σ:L2.St}{ρ:aA}{a:Q9}{u:HO}{T:List (Q9×List V)}{i:Nat}{o:O}{t:Tr}
theorem uQ{o:O}{ho:HO}{c:Q9}(h:cQ Γ Hs c o ho):∀x,ho≠.own x:=λx z=>by
 subst z
 induction o with
 |lst _=>obtain⟨_,e,_⟩:=h;cases e
 |obj _ _ _=>obtain⟨_,_,e,_⟩:=h;cases e
 |dic _=>cases h
 |par b o ih=>exact ih h.2
 |fdic _=>obtain⟨_,e⟩:=h;cases e
 |tab _=>exact h.elim
 |dik _=>cases h
 |tre _=>obtain⟨_,_,e,_⟩:=h;cases e
theorem oa(re:RE Γ B0 B1 Hs H σ ρ)(hd:ρ[i]?=some (some (.own o)))(ea:σ[i]?=some (some (.ref a)))(hs:Hs a=none)(hh:H a=some (.big u T))(rt:jf Γ Hs t u T)(nd:(T.map (·.1)).Nodup)(ha:∀p∈T,p.1≠a)(hT:∀p∈T,H p.1=some (.own a))(htb:∀b o,Γ.tb b=some o->∃g,o=.tab g):
  RE Γ (zH (bj a u T) B0) (zH (bj a u T) B1) (iJ (bj a u T) Hs) (iJ (bj a u T) H) σ (ρ.set i (some (.sh t.val))):=by
 have hi:i<ρ.length:=(List.getElem?_eq_some_iff.mp hd).1;have inM:∀{b:Q9}{o:HO},bj a u T b=some o->b=a\/H b=some (.own a):=λ{b o} h=>by
  rcases fU h with⟨z,_⟩|⟨_,xs,h1,_⟩
  ·exact .inl z
  ·exact .inr (hT _ (cD h1))
 have sx:fY Hs (iJ (bj a u T) Hs):=λb o h n=>by
  cases z:bj a u T b with
  |none=>rw[ay z];exact h
  |some w=>
   rcases inM z with rfl|h2
   ·rw[hs] at h;cases h
   ·rw[re.b.i _ _ h] at h2;cases h2;exact(n _ rfl).elim
 refine⟨⟨λb o h=>?_,λb o h=>?_,λb o h=>?_,λb o h=>?_⟩,λj d hj=>?_,λj o' hj=>?_,λj k o1 o2 c hjk hj hk hc=>?_,by rw[length_set];exact re.len,λb o h=>?_⟩
 ·cases z:bj a u T b with
  |none=>rw[dF z] at h;rw[ay z];exact re.b.s b o h
  |some w=>rw[kX z] at h;cases h
 ·cases z:bj a u T b with
  |none=>rw[dF z] at h;rw[ay z];exact re.b.h b o h
  |some w=>rw[kX z] at h;cases h
 ·cases z:bj a u T b with
  |none=>rw[ay z] at h ⊢;exact re.b.i b o h
  |some w=>rw[aP z] at h ⊢;exact h
 ·cases z:bj a u T b with
  |none=>rw[ay z] at h;rw[dF z,dF z];exact re.b.n b o h
  |some w=>exact .inr (kX z)
 ·by_cases c:i=j
  ·subst c;rw[getElem?_set_self hi] at hj;cases hj;exact⟨_,ea,rt.view sx (aP dy) λp hp=>aP (by rw[ba (ha p hp),aX nd hp];rfl)⟩
  ·rw[getElem?_set_ne c] at hj;obtain⟨v,e1,r⟩:=re.sh j d hj;exact⟨v,e1,r.monoX sx⟩
 ·have c:i≠j:=λz=>by subst z;rw[getElem?_set_self hi] at hj;cases hj
  rw[getElem?_set_ne c] at hj;obtain⟨b,ho,f1,f2,f3,f4,f5⟩:=re.own j o' hj;have hb:bj a u T b=none:=by
   cases z:bj a u T b with
   |none=>rfl
   |some w=>
    rcases inM z with rfl|h2
    ·exact(re.apart i j o o' b c hd hj ea f1).elim
    ·rw[f4] at h2;exact(uQ f5 _ (Option.some.inj h2)).elim
  exact⟨b,ho,f1,by rw[dF hb];exact f2,by rw[ay hb];exact f3,by rw[ay hb];exact f4,f5.monoX sx⟩
 ·have old:∀{m:Nat}{x:O},(ρ.set i (some (.sh t.val)))[m]?=some (some (.own x))->ρ[m]?=some (some (.own x)):=λ{m x} h=>by
   by_cases c:i=m
   ·subst c;rw[getElem?_set_self hi] at h;cases h
   ·rw[getElem?_set_ne c] at h;exact h
  exact re.apart j k o1 o2 c hjk (old hj) (old hk) hc
 ·obtain⟨g,rfl⟩:=htb b o h;exact sx _ _ (re.tb b _ h) λ_=>nofun
theorem iN{Hs1 H1:Hp}(sm:aj Hs H)(hh:H a=some (.big u T))(hT:∀p∈T,H p.1=some (.own a))(g:bt (iJ (bj a u T) Hs) (iJ (bj a u T) H) Hs1 H1):
  bt Hs H (λb=>match bj a u T b with|some _=>Hs b|none=>Hs1 b) (iJ (oq a u T) H1):=by
 have cl:∀{b:Q9}{w:HO},bj a u T b=some w->H b=oq a u T b:=λ{b w} z=>by
  rcases fU z with⟨rfl,_⟩|⟨hb,xs,h1,_⟩
  ·rw[pI];exact hh
  ·rw[nk hb,h1];exact hT _ (cD h1)
 refine⟨λb o h=>?_,λb o h=>?_,λb o h=>?_,λb o h=>?_⟩
 ·cases z:bj a u T b with
  |some w=>exact h
  |none=>exact g.s b o (by rw[ay z];exact h)
 ·cases z:bj a u T b with
  |some w=>have:=cl z;rw[h] at this;exact aP this.symm
  |none=>rw[ay (iB.mpr z)];exact g.h b o (by rw[ay z];exact h)
 ·cases z:bj a u T b with
  |some w=>rw[z] at h;have:=cl z;rw[sm _ _ h] at this;exact aP this.symm
  |none=>rw[z] at h;rw[ay (iB.mpr z)];exact g.i b o h
 ·cases z:bj a u T b with
  |some w=>rw[z] at h;exact .inl h
  |none=>
   rw[z] at h;rcases g.n b o h with y|y
   ·rw[ay z] at y;exact .inl y
   ·rw[ay z] at y;exact .inr y
end
section
variable{X:Cx}{Γ:Ct}{e:Vd}{g:ME}{i:Nat}
theorem m7(htb:∀b o,Γ.tb b=some o->∃g,o=.tab g)(h:PD X Γ W0 e g):PD X Γ W0 e (cj i g):=PE.imp (Dy h) λpins s σ H Q I ⟨B0,B1,Hs,ρ,r,re,ee,q⟩=>by
 obtain⟨⟨o,t⟩,h1,h2⟩:=Option.bind_eq_some_iff.mp ee;obtain⟨r0,h3,h4⟩:=Option.bind_eq_some_iff.mp h2;obtain⟨hd,hc⟩:=dQ h1;obtain⟨a,ho,f1,f2,f3,f4,f5⟩:=re.own i o hd;have f6:=f5.core;rw[hc] at f6;obtain⟨u,T,rfl,rt⟩:=f6;obtain⟨_,nd,f⟩:=(show bM X.prog X.w H s.heap a (.big u T) from I.hok a _ f4);have ha:∀p∈T,p.1≠a:=λp hp=>(f p hp).1;have hT:∀p∈T,H p.1=some (.own a):=λp hp=>(f p hp).2.1;refine⟨a,u,T,f4,rt.root,_,_,_,_,r0,oa re hd f1 f3 f4 rt nd ha hT htb,h3,?_⟩;have keep:∀{Hs1 H1:Hp},bt (iJ (bj a u T) Hs) (iJ (bj a u T) H) Hs1 H1->∀b o,bj a u T b=some o->H1 b=some o:=λg b o z=>g.h b o (aP z);have tup:∀{Hs1 H1:Hp},bt (iJ (bj a u T) Hs) (iJ (bj a u T) H) Hs1 H1->∀b o,Hs1 b=some o->(∀xs,o≠.lst xs)->(∀C d f,o≠.ins C d f)->(λb=>match bj a u T b with|some _=>Hs b|none=>Hs1 b) b=some o:=λ{Hs1 H1} g b o h n1 n2=>by
  dsimp only;cases z:bj a u T b with
  |none=>exact h
  |some w=>
   have y:=keep g b w z;rw[g.i _ _ h] at y;cases y;rcases fU z with⟨_,rfl⟩|⟨_,xs,_,rfl⟩
   ·have hr:=rt.root;cases o with
    |lst xs=>exact(n1 _ rfl).elim
    |ins C d f=>exact(n2 _ _ _ rfl).elim
    |_=>exact hr.elim
   ·exact(n1 _ rfl).elim
 unfold uh at h4;split at h4
 ·rename_i d;obtain⟨hp,rfl⟩:=bL h4;exact λv Hs1 H1 g1 rs=>⟨keep g1,q v _ _ (iN re.b.i f4 hT g1) (qP (tup g1) hp rs)⟩
 ·rename_i ds;obtain⟨hp,rfl⟩:=bL h4;intro v Hs1 H1 g1 rs;obtain⟨b,ho,rfl,k0,k1,k2,k3⟩:=rs;obtain⟨xs,rfl,rl⟩:=k3;have hb:bj a u T b=none:=by
   cases z:bj a u T b with
   |none=>rfl
   |some w=>rw[aP z] at k0;cases k0
  refine⟨keep g1,q _ _ _ (iN re.b.i f4 hT g1) ⟨b,_,rfl,by rw[ay hb] at k0;exact k0,by rw[hb];exact k1,by rw[ay (iB.mpr hb)];exact k2,xs,rfl,kY (tup g1) hp rl⟩⟩
 ·cases h4
end
end L3
namespace L2
open PySem PySem.Spec PyProof.Rows
section
variable{X:Cx}{st:Ve}{t:TS}{e:Vd}{tt:TT}
def Ha(t:TS):TS:=λD σ H=>∃a u T,H a=some (.big u T)/\nY u/\t {nx:=λσ' H1=>∃u' T',nY u'/\(T'.map (·.1)).Nodup/\(∀p∈T',p.1≠a)/\(∀b o,bj a u' T' b=some o->H1 b=some o)/\D.nx σ' (iJ (oq a u' T') H1),bk:=λ_ _=>False,ct:=λ_ _=>False,rt:=λ_ _=>False} σ (iJ (bj a u T) H)
def IK(t:TT):TT:=λσ H Q=>∃a u T,H a=some (.big u T)/\nY u/\t σ (iJ (bj a u T) H) λv H'=>(∀b o,bj a u T b=some o->H' b=some o)/\Q v (iJ (oq a u T) H')
theorem Dl(h:PT X e tt):PT X e (IK tt):=by
 intro pins s σ H Q I ⟨a,u,T,ea,hr,q⟩;obtain⟨_,nd,f⟩:=(show bM X.prog X.w H s.heap a (.big u T) from I.hok a _ ea);exact cA (h pins s σ _ _ (I.opn ea hr) q) λw s' ⟨H',I2,e2,q2⟩=>⟨_,I2.cls hr nd (λp hp=>(f p hp).1) e2,q2⟩
theorem lZ(h:PS X st t):PS X st (Ha t):=by
 intro pins s σ H D I ⟨a,u,T,ea,hr,q⟩;refine cA (h pins s σ _ _ (I.opn ea hr) q) λfl s' z=>?_;cases fl with
 |next=>obtain⟨σ',H1,I1,u',T',r',nd,ha,e2,q2⟩:=z;exact⟨σ',_,I1.cls r' nd ha e2,q2⟩
 |brk=>obtain⟨_,_,_,q⟩:=z;exact q.elim
 |cont=>obtain⟨_,_,_,q⟩:=z;exact q.elim
 |ret v=>obtain⟨_,_,_,_,_,q⟩:=z;exact q.elim
end
end L2
namespace L3
open PySem PySem.Spec PyProof.Rows L2
section
variable{Γ:Ct}{B0 B1 Hs H:Hp}{σ:L2.St}{ρ:aA}{a:Q9}{u u':HO}{T T':List (Q9×List V)}{i:Nat}{o:O}{t:Tr}
theorem og(re:RE Γ B0 B1 Hs H σ ρ)(hd:ρ[i]?=some (some (.own o)))(ea:σ[i]?=some (some (.ref a)))(hs:Hs a=none)(hT:∀p∈T,H p.1=some (.own a))(htb:∀b o,Γ.tb b=some o->∃g,o=.tab g):
  RE Γ (zH (bj a u T) B0) (iJ (bj a u T) B1) (zH (bj a u T) Hs) (iJ (bj a u T) H) σ (ρ.set i none)/\fY Hs (zH (bj a u T) Hs):=by
 have hi:i<ρ.length:=(List.getElem?_eq_some_iff.mp hd).1;have inM:∀{b:Q9}{o:HO},bj a u T b=some o->b=a\/H b=some (.own a):=λ{b o} h=>by
  rcases fU h with⟨z,_⟩|⟨_,xs,h1,_⟩
  ·exact .inl z
  ·exact .inr (hT _ (cD h1))
 have sx:fY Hs (zH (bj a u T) Hs):=λb o h n=>by
  cases z:bj a u T b with
  |none=>rw[dF z];exact h
  |some w=>
   rcases inM z with rfl|h2
   ·rw[hs] at h;cases h
   ·rw[re.b.i _ _ h] at h2;cases h2;exact(n _ rfl).elim
 refine⟨⟨⟨λb o h=>?_,λb o h=>?_,λb o h=>?_,λb o h=>?_⟩,λj d hj=>?_,λj o' hj=>?_,λj k o1 o2 c hjk hj hk hc=>?_,by rw[length_set];exact re.len,λb o h=>?_⟩,sx⟩
 ·cases z:bj a u T b with
  |none=>rw[dF z] at h ⊢;exact re.b.s b o h
  |some w=>rw[kX z] at h;cases h
 ·cases z:bj a u T b with
  |none=>rw[ay z] at h ⊢;exact re.b.h b o h
  |some w=>rw[aP z] at h ⊢;exact h
 ·cases z:bj a u T b with
  |none=>rw[dF z] at h;rw[ay z];exact re.b.i b o h
  |some w=>rw[kX z] at h;cases h
 ·cases z:bj a u T b with
  |none=>rw[dF z] at h ⊢;rw[ay z];exact re.b.n b o h
  |some w=>rw[kX z] at h;cases h
 ·have c:i≠j:=λz=>by subst z;rw[getElem?_set_self hi] at hj;cases hj
  rw[getElem?_set_ne c] at hj;obtain⟨v,e1,r⟩:=re.sh j d hj;exact⟨v,e1,r.monoX sx⟩
 ·have c:i≠j:=λz=>by subst z;rw[getElem?_set_self hi] at hj;cases hj
  rw[getElem?_set_ne c] at hj;obtain⟨b,ho,f1,f2,f3,f4,f5⟩:=re.own j o' hj;have hb:bj a u T b=none:=by
   cases z:bj a u T b with
   |none=>rfl
   |some w=>
    rcases inM z with rfl|h2
    ·exact(re.apart i j o o' b c hd hj ea f1).elim
    ·rw[f4] at h2;exact(uQ f5 _ (Option.some.inj h2)).elim
  exact⟨b,ho,f1,by rw[ay hb];exact f2,by rw[dF hb];exact f3,by rw[ay hb];exact f4,f5.monoX sx⟩
 ·have old:∀{m:Nat}{x:O},(ρ.set i none)[m]?=some (some (.own x))->ρ[m]?=some (some (.own x)):=λ{m x} h=>by
   by_cases c:i=m
   ·subst c;rw[getElem?_set_self hi] at h;cases h
   ·rw[getElem?_set_ne c] at h;exact h
  exact re.apart j k o1 o2 c hjk (old hj) (old hk) hc
 ·obtain⟨g,rfl⟩:=htb b o h;exact sx _ _ (re.tb b _ h) λ_=>nofun
def Ey(M Hs Hs1:Hp):Hp:=λb=>match M b with|some _=>Hs b|none=>Hs1 b
theorem jI{Hs1 H1:Hp}(sm:aj Hs H)(hs:Hs a=none)(hT:∀p∈T,H p.1=some (.own a))(g:bt (zH (bj a u T) Hs) (iJ (bj a u T) H) Hs1 H1)
  (hold:∀b,bj a u T b≠none->bj a u' T' b≠none) (hnew:∀b,bj a u T b=none->bj a u' T' b≠none->H b=none/\Hs1 b=none):
  zk a Hs H (Ey (bj a u T) Hs Hs1) (iJ (oq a u' T') H1)/\aj Hs1 (Ey (bj a u T) Hs Hs1):=by
 have own:∀{b:Q9},b≠a->bj a u' T' b≠none->oq a u' T' b=some (.own a):=λ{b} hb z=>by
  rw[ba hb] at z;rw[nk hb];cases y:T'.lookup b with
  |none=>rw[y] at z;exact(z rfl).elim
  |some xs=>rfl
 have inM:∀{b:Q9}{w:HO},bj a u T b=some w->b≠a->H b=some (.own a):=λ{b w} z hb=>by
  rcases fU z with⟨rfl,_⟩|⟨_,xs,h1,_⟩
  ·exact(hb rfl).elim
  ·exact hT _ (cD h1)
 have hs1:∀{b:Q9}{w:HO},bj a u T b=some w->Hs1 b=none:=λ{b w} z=>by
  cases y:Hs1 b with
  |none=>rfl
  |some v=>
   rcases g.n b v y with k|k
   ·rw[kX z] at k;cases k
   ·rw[aP z] at k;cases k
 refine⟨⟨λb o h=>?_,λb o hb h=>?_,λb o h=>?_,λb o h=>?_⟩,λb o h=>?_⟩
 ·unfold Ey;cases z:bj a u T b with
  |some w=>exact h
  |none=>exact g.s b o (by rw[dF z];exact h)
 ·cases z:bj a u T b with
  |some w=>
   have:=inM z hb;rw[h] at this;cases this;exact aP (own hb (hold b (by rw[z];exact nofun)))
  |none=>
   have n:bj a u' T' b=none:=by
    cases y:bj a u' T' b with
    |none=>rfl
    |some v=>have:=(hnew b z (by rw[y];exact nofun)).1;rw[h] at this;cases this
   rw[ay (iB.mpr n)];exact g.h b o (by rw[ay z];exact h)
 ·unfold Ey at h;cases z:bj a u T b with
  |some w=>
   rw[z] at h;have hb:b≠a:=λy=>by subst y;rw[hs] at h;cases h
   have:=inM z hb;rw[sm _ _ h] at this;cases this;exact aP (own hb (hold b (by rw[z];exact nofun)))
  |none=>
   rw[z] at h;have h:Hs1 b=some o:=h;have n:bj a u' T' b=none:=by
    cases y:bj a u' T' b with
    |none=>rfl
    |some v=>have:=(hnew b z (by rw[y];exact nofun)).2;rw[h] at this;cases this
   rw[ay (iB.mpr n)];exact g.i b o h
 ·unfold Ey at h;cases z:bj a u T b with
  |some w=>rw[z] at h;exact .inl h
  |none=>
   rw[z] at h;rcases g.n b o h with y|y
   ·rw[dF z] at y;exact .inl y
   ·rw[ay z] at y;exact .inr y
 ·unfold Ey;cases z:bj a u T b with
  |some w=>rw[hs1 z] at h;cases h
  |none=>exact h
end
section
variable{X:Cx}{Γ:Ct}{e:Vd}{g:ME}{i:Nat}
theorem fM(htb:∀b o,Γ.tb b=some o->∃g,o=.tab g)(h:wu X Γ W0 e g):wu X Γ W0 e (cj i g):=PT.imp (Dl h) λpins s σ H Q I ⟨B0,B1,Hs,ρ,r,re,ee,q⟩=>by
 obtain⟨⟨o,t⟩,h1,h2⟩:=Option.bind_eq_some_iff.mp ee;obtain⟨r0,h3,h4⟩:=Option.bind_eq_some_iff.mp h2;obtain⟨hd,hc⟩:=dQ h1;obtain⟨a,ho,f1,f2,f3,f4,f5⟩:=re.own i o hd;have f6:=f5.core;rw[hc] at f6;obtain⟨u,T,rfl,rt⟩:=f6;obtain⟨_,nd,f⟩:=(show bM X.prog X.w H s.heap a (.big u T) from I.hok a _ f4);have ha:∀p∈T,p.1≠a:=λp hp=>(f p hp).1;have hT:∀p∈T,H p.1=some (.own a):=λp hp=>(f p hp).2.1;refine⟨a,u,T,f4,rt.root,_,_,_,_,r0,oa re hd f1 f3 f4 rt nd ha hT htb,h3,?_⟩;unfold uh at h4;split at h4
 ·rename_i d;obtain⟨hp,rfl⟩:=bL h4;obtain⟨b,hb,q⟩:=q;exact⟨b,hb,λHs1 H1 g1=>⟨λb o z=>g1.h b o (aP z),q _ _ (iN re.b.i f4 hT g1)⟩⟩
 ·rename_i ds;obtain⟨hp,rfl⟩:=bL h4;obtain⟨b,hb,_⟩:=q;cases hb
 ·cases h4
end
theorem ie{l:Q9}{x y:List V}{R:List (Q9×List V)}:∀(T1:List (Q9×List V)){b:Q9},b≠l->(T1++(l,x)::R).lookup b=(T1++(l,y)::R).lookup b
 |[],b,h=>by rw[nil_append,nil_append,lookup_cons,lookup_cons,beq_false_of_ne h]
 | (c,z)::T1,b,h=>by rw[cons_append,cons_append,lookup_cons,lookup_cons,ie T1 h]
theorem sQ{M H:Hp}{l:Q9}{o:HO}(h:M l≠none):iJ M (bW H l o)=iJ M H:=by
 funext b;cases z:M b with
 |some w=>rw[aP z,aP z]
 |none=>rw[ay z,ay z,ak (λy=>by subst y;exact h z)]
def uc(f:Str):List Str->Option Nat
 |[]=>none
 |n::r=>if n=f then some 0 else(uc f r).map (· + 1)
theorem gV{f:Str}:∀{ns:List Str}{xs:List V}{k:Nat}{v:V},uc f ns=some k->xs[k]?=some v->(ns.zip xs).lookup f=some v
 |[],_,_,_,h,_=>nomatch h
 |n::r,[],k,v,_,e=>by simp at e
 |n::r,x::xs,k,v,h,e=>by
  unfold uc at h;rw[zip_cons_cons,lookup_cons];by_cases c:n=f
  ·rw[if_pos c] at h;cases h;cases e;rw[c,beq_self_eq_true]
  ·rw[if_neg c] at h;obtain⟨k',h1,rfl⟩:=Option.map_eq_some_iff.mp h;rw[beq_false_of_ne (Ne.symm c)];exact gV h1 (by simpa using e)
section
variable{Γ:Ct}{H:Hp}
inductive Ke(Γ:Ct)(H:Hp)(ts:List Tr)(xs:List V)(T:List (Q9×List V))(k:Nat)(us:List Tr):Prop
 |mk (l:Q9) (vs:List V) (T1 T' T2:List (Q9×List V)) (e1:xs[k]?=some (.ref l)) (eT:T=T1++(l,vs)::(T'++T2)) (r1:ai Γ H us vs T') (r2:∀H',fY H H'->∀us' vs' T'',ai Γ H' us' vs' T''->ai Γ H' (ts.set k (.lst us')) xs (T1++(l,vs')::(T''++T2)))
theorem ai.at:∀{ts:List Tr}{xs:List V}{T:List (Q9×List V)}{k:Nat}{us:List Tr},ai Γ H ts xs T->ts[k]?=some (.lst us)->Ke Γ H ts xs T k us
 |[],_,_,_,_,_,e=>by simp at e
 |t::ts,xs,T,0,us,r,e=>by
  simp at e;subst e;unfold ai at r;obtain⟨v,r',T1,T2,rfl,rfl,h3,h4⟩:=r;unfold hU at h3;obtain⟨l,vs,T',rfl,rfl,h5⟩:=h3;refine⟨l,vs,[],T',T2,rfl,rfl,h5,λH' hx us' vs' T'' h=>?_⟩;show ai Γ H' (.lst us'::ts) _ _;unfold ai;exact⟨.ref l,r',(l,vs')::T'',T2,rfl,rfl,by unfold hU;exact⟨l,vs',T'',rfl,rfl,h⟩,ai.monoX hx h4⟩
 |t::ts,xs,T,k+1,us,r,e=>by
  unfold ai at r;obtain⟨v,r',T1,T2,rfl,rfl,h3,h4⟩:=r;obtain⟨l,vs,A,T',B,e1,rfl,h5,h6⟩:=ai.at (k:=k) h4 (by simpa using e)
  refine⟨l,vs,T1++A,T',B,by simpa using e1,by rw[append_assoc],h5,λH' hx us' vs' T'' h=>?_⟩
  show ai Γ H' (t::ts.set k (.lst us')) _ _;unfold ai;exact⟨v,r',T1,A++(l,vs')::(T''++B),rfl,by rw[append_assoc],hU.monoX hx h3,h6 H' hx us' vs' T'' h⟩
theorem ai.snoc{d:D}{v:V}(rp:bI Γ H d v):∀{us:List Tr}{vs:List V}{T:List (Q9×List V)},ai Γ H us vs T->ai Γ H (us++[.sh d]) (vs++[v]) T
 |[],_,_,r=>by
  unfold ai at r;obtain⟨rfl,rfl⟩:=r;show ai Γ H [.sh d] [v] [];unfold ai;exact⟨v,[],[],[],rfl,rfl,by unfold hU;exact⟨rfl,rp⟩,by unfold ai;exact⟨rfl,rfl⟩⟩
 |t::us,_,_,r=>by
  unfold ai at r;obtain⟨x,r',T1,T2,rfl,rfl,h3,h4⟩:=r;show ai Γ H (t::(us++[.sh d])) (x::(r'++[v])) _;unfold ai;exact⟨x,r'++[v],T1,T2,rfl,rfl,h3,ai.snoc rp h4⟩
theorem ai.len:∀{us:List Tr}{vs:List V}{T:List (Q9×List V)},ai Γ H us vs T->us.length=vs.length
 |[],_,_,r=>by unfold ai at r;rw[r.1];rfl
 |t::us,_,_,r=>by
  unfold ai at r;obtain⟨x,r',T1,T2,rfl,rfl,h3,h4⟩:=r;rw[length_cons,length_cons,ai.len h4]
end
def oK(cs:List Vg)(i:Nat)(f:Str)(e:ME):MC:=λρ=>(f9 i ρ).bind λp=>match p.2 with
 |.ins c ns ts=>if cs.contains c=true then(uc f ns).bind λk=>match ts[k]?,e (ρ.set i none) with
  |some (.lst us),some (.ok s)=>if us.length<lim then some (.next (ρ.set i (some (.own (p.1.put (.tre (.ins c ns (ts.set k (.lst (us++[.sh s.val])))))))))) else none
  |_,_=>none else none
 |_=>none
theorem wO{cs:List Vg}{i:Nat}{f:Str}{e:ME}{ρ:aA}{out:kh}(h:oK cs i f e ρ=some out):∃o c ns ts k us s,f9 i ρ=some (o,.ins c ns ts)/\cs.contains c=true/\uc f ns=some k/\ts[k]?=some (.lst us)/\e (ρ.set i none)=some (.ok s)/\us.length<lim/\out=.next (ρ.set i (some (.own (o.put (.tre (.ins c ns (ts.set k (.lst (us++[.sh s.val]))))))))):=by
 unfold oK at h;obtain⟨⟨o,t⟩,h1,h⟩:=Option.bind_eq_some_iff.mp h;dsimp only at h;split at h
 ·rename_i c ns ts;split at h
  ·rename_i hc;obtain⟨k,h2,h⟩:=Option.bind_eq_some_iff.mp h;split at h
   ·rename_i us s h3 h4;split at h
    ·rename_i hl;cases h;exact⟨o,c,ns,ts,k,us,s,h1,hc,h2,h3,h4,hl,rfl⟩
    ·cases h
   ·cases h
  ·cases h
 ·cases h
section
variable{X:Cx}{Γ:Ct}{i:Nat}{x f:Str}{e:Vd}{ge:ME}{px fpos apos cpos pos:Pos}{cs:List Vg}
theorem uZ(hK:X.K=Γ.K)(hC:∀c∈cs,iC Γ.K (Γ.cls c)/\b0 Γ.K (Γ.cls c) f)(htb:∀b o,Γ.tb b=some o->∃g,o=.tab g)(hv:PE X (.Name x px) (mL i))(he:PD X Γ W0 e ge)
  (hb:attributeBase (.Name x px) f X.env (eval (.Name x px) X.env)=eval (.Name x px) X.env:=by rfl) (hs:starEach [e] X.env=(false,eval e X.env)::starEach [] X.env:=by rfl)
  (hbase:attributeBase (.Attribute (.Name x px) f fpos) "append" X.env (eval (.Attribute (.Name x px) f fpos) X.env)=eval (.Attribute (.Name x px) f fpos) X.env:=by rfl)
  (hfew:((backTo cpos (starEach [e] X.env)).all (λx=>!x.1) && (backToKw cpos (keywordEach [] X.env)).all (λx=>x.1.isSome) && decide ([e].length+([]:List Keyword).length+(if([]:List Keyword).isEmpty then 0 else 1)<30))=true:=by rfl)
  (hline:(apos.endLine == cpos.line)=true:=by rfl) (hplain:(backTo cpos (starEach [] X.env)).any (·.1)=false:=by rfl) (hsw:swapsWith (.Call (.Attribute (.Attribute (.Name x px) f fpos) "append" apos) [e] [] cpos) none pos.line X.env=pure false:=by rfl):
  ox X Γ W0 (.Expr (.Call (.Attribute (.Attribute (.Name x px) f fpos) "append" apos) [e] [] cpos) pos) (oK cs i f ge):=
 PS.imp (lZ (jV (qT PySem.F.plainAttrs_list PySem.F.slot_list_append PySem.F.type_list_append iM (oR hv hb) (bH he de hs) hbase hfew hline hs hplain) hsw)) λpins s σ H En I ⟨B0,B1,Hs,ρ,out,re,eo,q⟩=>by
  obtain⟨o,c,ns,ts,k,us,sv,h1,hc,h2,h3,h4,hl,rfl⟩:=wO eo;obtain⟨hd,ho⟩:=dQ h1;obtain⟨a,hx,f1,f2,f3,f4,f5⟩:=re.own i o hd;have f6:=f5.core;rw[ho] at f6;obtain⟨u,T,rfl,dx,xs,rfl,rt⟩:=f6;obtain⟨_,nd,ff⟩:=(show bM X.prog X.w H s.heap a (.big (.ins (Γ.cls c) dx (ns.zip xs)) T) from I.hok a _ f4);have ha:∀p∈T,p.1≠a:=λp hp=>(ff p hp).1;have hT:∀p∈T,H p.1=some (.own a):=λp hp=>(ff p hp).2.1;obtain⟨l,vs,T1,T',T2,e1,eT,r1,r2⟩:=rt.at h3;have hm:(l,vs)∈T:=by rw[eT];simp
  have hla:l≠a:=ha _ hm;have hlM:bj a (.ins (Γ.cls c) dx (ns.zip xs)) T l=some (.lst vs):=by rw[ba hla,aX nd hm];rfl
  obtain⟨c1,c2⟩:=hC c (by simpa using hc)
  obtain⟨reH,_⟩:=og (u:=.ins (Γ.cls c) dx (ns.zip xs)) re hd f1 f3 hT htb;refine⟨a,_,T,f4,True.intro,.ref a,f1,a,_,dx,_,.ref l,rfl,aP dy,hK▸c1,hK▸c2,gV h2 e1,.inl ⟨rfl,vs,.of (aP hlM)⟩,_,_,_,_,_,reH,h4,λy Hs1 H1 g1 rs=>?_⟩;obtain⟨Hs2,g2,_,rp⟩:=rs.share g1;have fst:(T1++(l,vs++[y])::(T'++T2)).map (·.1)=T.map (·.1):=by rw[eT];simp
  have nd':((T1++(l,vs++[y])::(T'++T2)).map (·.1)).Nodup:=by rw[fst];exact nd
  have sw:∀{b:Q9},b≠l->(T1++(l,vs++[y])::(T'++T2)).lookup b=T.lookup b:=λ{b} h=>by rw[eT];exact ie T1 h
  have atl:(T1++(l,vs++[y])::(T'++T2)).lookup l=some (vs++[y]):=aX nd' (by simp)
  have dom:∀b,bj a (.ins (Γ.cls c) dx (ns.zip xs)) (T1++(l,vs++[y])::(T'++T2)) b=none↔bj a (.ins (Γ.cls c) dx (ns.zip xs)) T b=none:=λb=>by
   by_cases hba:b=a
   ·subst hba;rw[dy,dy]
   ·rw[ba hba,ba hba];by_cases hbl:b=l
    ·subst hbl;rw[atl,aX nd hm];exact⟨nofun,nofun⟩
    ·rw[sw hbl]
  obtain⟨gx,sf⟩:=jI (u':=.ins (Γ.cls c) dx (ns.zip xs)) (T':=T1++(l,vs++[y])::(T'++T2)) re.b.i f3 hT g2 (λb h z=>h ((dom b).mp z)) λb h z=>(z ((dom b).mpr h)).elim;have clm:oq a (.ins (Γ.cls c) dx (ns.zip xs)) (T1++(l,vs++[y])::(T'++T2)) l≠none:=λz=>by
   have:=(dom l).mp (iB.mp z);rw[hlM] at this;cases this
  refine⟨l,vs,y,rfl,rfl,g2.h _ _ (aP hlM),by rw[<-r1.len];exact lt_of_lt_of_le hl (by decide),.ins (Γ.cls c) dx (ns.zip xs),T1++(l,vs++[y])::(T'++T2),True.intro,nd',λp hp=>?_,λb w z=>?_,?_⟩
  ·have:p.1∈T.map (·.1):=by rw[<-fst];exact mem_map.mpr ⟨p,hp,rfl⟩
   obtain⟨p',hp',e'⟩:=mem_map.mp this;rw[<-e'];exact ha p' hp'
  ·by_cases hbl:b=l
   ·subst hbl;rw[ba hla,atl] at z;cases z;exact aF
   ·rw[ak hbl];refine g2.h b w (aP ?_);by_cases hba:b=a
    ·subst hba;rw[dy] at z ⊢;exact z
    ·rw[ba hba,sw hbl] at z;rw[ba hba];exact z
  ·rw[sQ clm];refine q σ _ _ gx.s (re.called hd f1 gx ?_ (aP pI) (cQ.put f5 ⟨_,_,rfl,dx,xs,rfl,?_⟩))
   ·unfold Ey;rw[dy];exact f3
   ·exact r2 _ (iF gx.s) _ _ _ ((ai.monoX (iF gx.s) r1).snoc (rp.mono sf))
end
section
variable{Γ:Ct}{B0 B1 Hs H:Hp}{σ:L2.St}{ρ:aA}{a l:Q9}{u:HO}{T T1 R:List (Q9×List V)}{i:Nat}{o:O}{vs vs':List V}{t':Tr}
theorem p4{Hs1 H1:Hp}{En:o3}(re:RE Γ B0 B1 Hs H σ ρ)(hd:ρ[i]?=some (some (.own o)))(f1:σ[i]?=some (some (.ref a)))(f3:Hs a=none)(f5:cQ Γ Hs a o (.big u T))(hr:nY u)(nd:(T.map (·.1)).Nodup)(ha:∀p∈T,p.1≠a)(hT:∀p∈T,H p.1=some (.own a))
  (eT:T=T1++(l,vs)::R) (g2:bt (zH (bj a u T) Hs) (iJ (bj a u T) H) Hs1 H1) (rt:∀Hf,aj Hs Hf->aj Hs1 Hf->jf Γ Hf t' u (T1++(l,vs')::R)) (q:∀σ' Hs' H',aj Hs Hs'->RE Γ B0 B1 Hs' H' σ' (ρ.set i (some (.own (o.put (.tre t')))))->En.nx σ' H'):
  ∃u' T',nY u'/\(T'.map (·.1)).Nodup/\(∀p∈T',p.1≠a)/\(∀b w,bj a u' T' b=some w->bW H1 l (.lst vs') b=some w)/\En.nx σ (iJ (oq a u' T') (bW H1 l (.lst vs'))):=by
 have hm:(l,vs)∈T:=by rw[eT];simp
 have hla:l≠a:=ha _ hm;have hlM:bj a u T l=some (.lst vs):=by rw[ba hla,aX nd hm];rfl
 have fst:(T1++(l,vs')::R).map (·.1)=T.map (·.1):=by rw[eT];simp
 have nd':((T1++(l,vs')::R).map (·.1)).Nodup:=by rw[fst];exact nd
 have sw:∀{b:Q9},b≠l->(T1++(l,vs')::R).lookup b=T.lookup b:=λ{b} h=>by rw[eT];exact ie T1 h
 have atl:(T1++(l,vs')::R).lookup l=some vs':=aX nd' (by simp)
 have dom:∀b,bj a u (T1++(l,vs')::R) b=none↔bj a u T b=none:=λb=>by
  by_cases hba:b=a
  ·subst hba;rw[dy,dy]
  ·rw[ba hba,ba hba];by_cases hbl:b=l
   ·subst hbl;rw[atl,aX nd hm];exact⟨nofun,nofun⟩
   ·rw[sw hbl]
 obtain⟨gx,sf⟩:=jI (u':=u) (T':=T1++(l,vs')::R) re.b.i f3 hT g2 (λb h z=>h ((dom b).mp z)) λb h z=>(z ((dom b).mpr h)).elim;have clm:oq a u (T1++(l,vs')::R) l≠none:=λz=>by
  have:=(dom l).mp (iB.mp z);rw[hlM] at this;cases this
 refine⟨u,T1++(l,vs')::R,hr,nd',λp hp=>?_,λb w z=>?_,?_⟩
 ·have:p.1∈T.map (·.1):=by rw[<-fst];exact mem_map.mpr ⟨p,hp,rfl⟩
  obtain⟨p',hp',e'⟩:=mem_map.mp this;rw[<-e'];exact ha p' hp'
 ·by_cases hbl:b=l
  ·subst hbl;rw[ba hla,atl] at z;cases z;exact aF
  ·rw[ak hbl];refine g2.h b w (aP ?_);by_cases hba:b=a
   ·subst hba;rw[dy] at z ⊢;exact z
   ·rw[ba hba,sw hbl] at z;rw[ba hba];exact z
 ·rw[sQ clm];refine q σ _ _ gx.s (re.called hd f1 gx ?_ (aP pI) (cQ.put f5 ⟨_,_,rfl,rt _ gx.s sf⟩));unfold Ey;rw[dy];exact f3
end
section
variable{Γ:Ct}{H:Hp}
theorem ai.popS:∀{us:List Tr}{vs:List V}{T:List (Q9×List V)}{d:D},ai Γ H us vs T->us.getLast?=some (.sh d)->∃y,vs[vs.length - 1]?=some y/\ai Γ H us.dropLast vs.dropLast T
 |[],_,_,_,_,e=>by cases e
 |[t],_,_,d,r,e=>by
  cases e;unfold ai at r;obtain⟨v,r',T1,T2,rfl,rfl,h3,h4⟩:=r;unfold ai at h4;obtain⟨rfl,rfl⟩:=h4;unfold hU at h3;obtain⟨rfl,_⟩:=h3;exact⟨v,rfl,by show ai Γ H [] [] [];unfold ai;exact⟨rfl,rfl⟩⟩
 |t::t2::us,_,_,d,r,e=>by
  unfold ai at r;obtain⟨v,r',T1,T2,rfl,rfl,h3,h4⟩:=r;obtain⟨y,h5,h6⟩:=ai.popS (d:=d) h4 (by rw[List.getLast?_cons_cons] at e;exact e)
  have hl:=ai.len h4;rw[length_cons] at hl;cases r' with
  |nil=>cases hl
  |cons w r'=>
   refine⟨y,?_,?_⟩
   ·rw[length_cons] at h5 ⊢;rw[length_cons,Nat.add_sub_cancel];rw[Nat.add_sub_cancel] at h5;rw[List.getElem?_cons_succ];exact h5
   ·show ai Γ H (t::(t2::us).dropLast) (v::(w::r').dropLast) _;unfold ai;exact⟨v,_,T1,T2,rfl,rfl,h3,h6⟩
end
def qO(cs:List Vg)(i:Nat)(f:Str):MC:=λρ=>(f9 i ρ).bind λp=>match p.2 with
 |.ins c ns ts=>if cs.contains c=true then(uc f ns).bind λk=>match ts[k]? with
  |some (.lst us)=>(match us.getLast? with
   |some (.sh _)=>some (.next (ρ.set i (some (.own (p.1.put (.tre (.ins c ns (ts.set k (.lst us.dropLast)))))))))
   |_=>none)
  |_=>none else none
 |_=>none
theorem wN{cs:List Vg}{i:Nat}{f:Str}{ρ:aA}{out:kh}(h:qO cs i f ρ=some out):∃o c ns ts k us d,f9 i ρ=some (o,.ins c ns ts)/\cs.contains c=true/\uc f ns=some k/\ts[k]?=some (.lst us)/\us.getLast?=some (.sh d)/\out=.next (ρ.set i (some (.own (o.put (.tre (.ins c ns (ts.set k (.lst us.dropLast)))))))):=by
 unfold qO at h;obtain⟨⟨o,t⟩,h1,h⟩:=Option.bind_eq_some_iff.mp h;dsimp only at h;split at h
 ·rename_i c ns ts;split at h
  ·rename_i hc;obtain⟨k,h2,h⟩:=Option.bind_eq_some_iff.mp h;split at h
   ·rename_i us h3;split at h
    ·rename_i d h4;cases h;exact⟨o,c,ns,ts,k,us,d,h1,hc,h2,h3,h4,rfl⟩
    ·cases h
   ·cases h
  ·cases h
 ·cases h
section
variable{X:Cx}{Γ:Ct}{i:Nat}{x f:Str}{px fpos apos cpos pos:Pos}{cs:List Vg}
theorem Bp(hK:X.K=Γ.K)(hC:∀c∈cs,iC Γ.K (Γ.cls c)/\b0 Γ.K (Γ.cls c) f)(htb:∀b o,Γ.tb b=some o->∃g,o=.tab g)(hv:PE X (.Name x px) (mL i))
  (hb:attributeBase (.Name x px) f X.env (eval (.Name x px) X.env)=eval (.Name x px) X.env:=by rfl)
  (hbase:attributeBase (.Attribute (.Name x px) f fpos) "pop" X.env (eval (.Attribute (.Name x px) f fpos) X.env)=eval (.Attribute (.Name x px) f fpos) X.env:=by rfl)
  (hline:(apos.endLine == cpos.line)=true:=by rfl) (hsw:swapsWith (.Call (.Attribute (.Attribute (.Name x px) f fpos) "pop" apos) [] [] cpos) none pos.line X.env=pure false:=by rfl):
  ox X Γ W0 (.Expr (.Call (.Attribute (.Attribute (.Name x px) f fpos) "pop" apos) [] [] cpos) pos) (qO cs i f):=
 PS.imp (lZ (jV (BD PySem.F.plainAttrs_list PySem.F.slot_list_pop PySem.F.type_list_pop BV (oR hv hb) hbase hline) hsw)) λpins s σ H En I ⟨B0,B1,Hs,ρ,out,re,eo,q⟩=>by
  obtain⟨o,c,ns,ts,k,us,d,h1,hc,h2,h3,h4,rfl⟩:=wN eo;obtain⟨hd,ho⟩:=dQ h1;obtain⟨a,hx,f1,f2,f3,f4,f5⟩:=re.own i o hd;have f6:=f5.core;rw[ho] at f6;obtain⟨u,T,rfl,dx,xs,rfl,rt⟩:=f6;obtain⟨_,nd,ff⟩:=(show bM X.prog X.w H s.heap a (.big (.ins (Γ.cls c) dx (ns.zip xs)) T) from I.hok a _ f4);have ha:∀p∈T,p.1≠a:=λp hp=>(ff p hp).1;have hT:∀p∈T,H p.1=some (.own a):=λp hp=>(ff p hp).2.1;obtain⟨l,vs,T1,T',T2,e1,eT,r1,r2⟩:=rt.at h3;have hm:(l,vs)∈T:=by rw[eT];simp
  have hlM:bj a (.ins (Γ.cls c) dx (ns.zip xs)) T l=some (.lst vs):=by rw[ba (ha _ hm),aX nd hm];rfl
  obtain⟨c1,c2⟩:=hC c (by simpa using hc)
  obtain⟨reH,_⟩:=og (u:=.ins (Γ.cls c) dx (ns.zip xs)) re hd f1 f3 hT htb;obtain⟨y,h5,h6⟩:=r1.popS h4;exact⟨a,_,T,f4,True.intro,.ref a,f1,a,_,dx,_,.ref l,rfl,aP dy,hK▸c1,hK▸c2,gV h2 e1,.inl ⟨rfl,vs,.of (aP hlM)⟩,l,vs,y,rfl,rfl,aP hlM,h5,
   p4 (t':=.ins c ns (ts.set k (.lst us.dropLast))) re hd f1 f3 f5 True.intro nd ha hT eT (.refl reH.b.i) (λHf s1 s2=>⟨dx,xs,rfl,r2 _ (iF s1) _ _ _ (ai.monoX (iF s1) h6)⟩) q⟩
end
theorem p8{p:Q9}{x:List V}{R:List (Q9×List V)}:∀(A:List (Q9×List V)){b:Q9},b≠p->(A++(p,x)::R).lookup b=(A++R).lookup b
 |[],b,h=>by rw[nil_append,nil_append,lookup_cons,beq_false_of_ne h]
 | (c,z)::A,b,h=>by rw[cons_append,cons_append,lookup_cons,lookup_cons,p8 A h]
section
variable{Γ:Ct}{B0 B1 Hs H:Hp}{σ:L2.St}{ρ:aA}{a l p:Q9}{u:HO}{T T1 A R:List (Q9×List V)}{i:Nat}{o:O}{vs vs' xs:List V}{t':Tr}
theorem BP{Hs1 H1:Hp}{En:o3}(re:RE Γ B0 B1 Hs H σ ρ)(hd:ρ[i]?=some (some (.own o)))(f1:σ[i]?=some (some (.ref a)))(f3:Hs a=none)(f5:cQ Γ Hs a o (.big u T))(hr:nY u)(nd:(T.map (·.1)).Nodup)(ha:∀p∈T,p.1≠a)(hT:∀p∈T,H p.1=some (.own a))
  (eT:T=T1++(l,vs)::(A++R)) (g2:bt (zH (bj a u T) Hs) (iJ (bj a u T) H) Hs1 H1) (k0:iJ (bj a u T) H p=none) (k1:Hs1 p=none) (k2:H1 p=some (.lst xs))
  (rt:∀Hf,aj Hs Hf->aj Hs1 Hf->jf Γ Hf t' u (T1++(l,vs')::(A++(p,xs)::R))) (q:∀σ' Hs' H',aj Hs Hs'->RE Γ B0 B1 Hs' H' σ' (ρ.set i (some (.own (o.put (.tre t')))))->En.nx σ' H'):
  ∃u' T',nY u'/\(T'.map (·.1)).Nodup/\(∀p∈T',p.1≠a)/\(∀b w,bj a u' T' b=some w->bW H1 l (.lst vs') b=some w)/\En.nx σ (iJ (oq a u' T') (bW H1 l (.lst vs'))):=by
 have hm:(l,vs)∈T:=by rw[eT];simp
 have hla:l≠a:=ha _ hm;have hlM:bj a u T l=some (.lst vs):=by rw[ba hla,aX nd hm];rfl
 have hpM:bj a u T p=none:=by
  cases z:bj a u T p with
  |none=>rfl
  |some w=>rw[aP z] at k0;cases k0
 obtain⟨hpa,hpl⟩:=oY hpM;rw[ay hpM] at k0;have hlp:l≠p:=λz=>by rw[<-z,hlM] at hpM;cases hpM
 have hpT:p∉T.map (·.1):=λz=>by
  obtain⟨⟨c,ys⟩,h1,h2⟩:=mem_map.mp z;dsimp only at h2;subst h2;rw[aX nd h1] at hpl;cases hpl
 have perm:((T1++(l,vs')::(A++(p,xs)::R)).map (·.1)).Perm (p::T.map (·.1)):=by
  rw[eT];simp only[map_append,map_cons];rw[<-cons_append,<-append_assoc];refine List.perm_middle.trans ?_;rw[append_assoc,cons_append]
 have nd':((T1++(l,vs')::(A++(p,xs)::R)).map (·.1)).Nodup:=perm.nodup_iff.mpr (nodup_cons.mpr ⟨hpT,nd⟩);have sw:∀{b:Q9},b≠l->b≠p->(T1++(l,vs')::(A++(p,xs)::R)).lookup b=T.lookup b:=λ{b} h h'=>by
  rw[eT,ie (y:=vs) T1 h,<-cons_append,<-append_assoc,p8 _ h',append_assoc,cons_append]
 have atl:(T1++(l,vs')::(A++(p,xs)::R)).lookup l=some vs':=aX nd' (by simp)
 have atp:(T1++(l,vs')::(A++(p,xs)::R)).lookup p=some xs:=aX nd' (by simp)
 have inn:∀b,bj a u T b≠none->bj a u (T1++(l,vs')::(A++(p,xs)::R)) b≠none:=λb h z=>h (by
  by_cases hba:b=a
  ·subst hba;rw[dy] at z;cases z
  ·rw[ba hba] at z ⊢;by_cases hbl:b=l
   ·subst hbl;rw[atl] at z;cases z
   ·by_cases hbp:b=p
    ·subst hbp;rw[atp] at z;cases z
    ·rw[sw hbl hbp] at z;exact z)
 have new:∀b,bj a u T b=none->bj a u (T1++(l,vs')::(A++(p,xs)::R)) b≠none->b=p:=λb h z=>by
  apply Classical.byContradiction;intro hbp;obtain⟨hba,hbT⟩:=oY h;have hbl:b≠l:=λy=>by subst y;rw[hlM] at h;cases h
  rw[ba hba,sw hbl hbp,hbT] at z;exact z rfl
 obtain⟨gx,sf⟩:=jI (u':=u) (T':=T1++(l,vs')::(A++(p,xs)::R)) re.b.i f3 hT g2 inn λb h z=>by rw[new b h z];exact⟨k0,k1⟩
 have clm:oq a u (T1++(l,vs')::(A++(p,xs)::R)) l≠none:=λz=>inn l (by rw[hlM];exact nofun) (iB.mp z)
 refine⟨u,T1++(l,vs')::(A++(p,xs)::R),hr,nd',λc hc=>?_,λb w z=>?_,?_⟩
 ·have:c.1∈p::T.map (·.1):=perm.mem_iff.mp (mem_map.mpr ⟨c,hc,rfl⟩);rcases mem_cons.mp this with e'|e'
  ·rw[e'];exact hpa
  ·obtain⟨p',hp',e'⟩:=mem_map.mp e';rw[<-e'];exact ha p' hp'
 ·by_cases hbl:b=l
  ·subst hbl;rw[ba hla,atl] at z;cases z;exact aF
  ·rw[ak hbl];by_cases hbp:b=p
   ·subst hbp;rw[ba hpa,atp] at z;cases z;exact k2
   ·refine g2.h b w (aP ?_);by_cases hba:b=a
    ·subst hba;rw[dy] at z ⊢;exact z
    ·rw[ba hba,sw hbl hbp] at z;rw[ba hba];exact z
 ·rw[sQ clm];refine q σ _ _ gx.s (re.called hd f1 gx ?_ (aP pI) (cQ.put f5 ⟨_,_,rfl,rt _ gx.s sf⟩));unfold Ey;rw[dy];exact f3
end
section
variable{X:Cx}{Γ:Ct}{W:XW}
theorem qW(hK:X.K=Γ.K)(hu:X.A.units<cLine):gd X (compareOp .NotEq) (rD Γ W tO):=λpins s σ H x y v u Q I rx ry ⟨Hs,d1,d2,r,sm,r1,r2,e,q⟩=>by
 cases d1 with
 |lst ds=>
  cases d2 with
  |lst es=>
   cases es with
   |cons _ _=>cases e
   |nil=>
    cases e;obtain⟨a,xs,rfl,qa,la⟩:=aH.mp r1;obtain⟨b,ys,rfl,qb,lb⟩:=aH.mp r2;cases rx;cases ry;obtain rfl:=bz.mp lb;obtain⟨its,ra,pa,za⟩:=I.list (by rw[hK];exact aj.seq sm qa)
    obtain⟨its2,rb,pb,zb⟩:=I.list (by rw[hK];exact aj.seq sm qb)
    have l1:=ra.length;have l2:=rb.length;have l3:=la.length;have fin:∀c:Bool,(!ds.isEmpty)=c->EP X pins σ Q (.bool c) s:=λc hc=>by subst hc;exact⟨.bl _,H,I,rfl,cV sm q (aw.mpr rfl)⟩
    cases ds with
    |nil=>
     have h0:its=[]:=by cases its with|nil=>rfl|cons _ _=>simp at l1 l3;omega
     have h2:its2=[]:=by cases its2 with|nil=>rfl|cons _ _=>simp at l2
     subst h0 h2;exact PySem.SeqAt.RcNeAt.lists (e:=λ_=>true) pa.isList pb.isList rfl hu (λj h1 _=>absurd h1 (by simp)) X.prog X.w X.xe _ (fin _ rfl)
    |cons d ds=>
     refine PySem.SeqAt.RcNeAt.lists_lengths pa.isList pb.isList ?_ hu X.prog X.w X.xe _ (fin _ rfl);rw[size_toArray,size_toArray,<-l1,<-l2,<-l3];simp
  |non=>cases e
  |bl _=>cases e
  |int _=>cases e
  |str _=>cases e
  |tup _=>cases e
  |fn _ _=>cases e
  |obj _ _ _=>cases e
 |_=>cases e
end
theorem lD{A:Vf}{k:Nat}(hr:cg k A):A.units<cLine:=Nat.lt_of_succ_lt (I8 hr)
section
variable{X:Cx}{Γ:Ct}{W:XW}{es:List Vd}{gs:List ME}{g:ME}{pos:Pos}
theorem padC{c j}(h:PD X Γ W (.Constant c j pos) g)(t:pS X Γ W es gs):pS X Γ W (.Constant c j pos::es) (g::gs):=cp h t rfl
theorem padN{x}(h:PD X Γ W (.Name x pos) g)(t:pS X Γ W es gs):pS X Γ W (.Name x pos::es) (g::gs):=cp h t rfl
theorem padB{a op b}(h:PD X Γ W (.BinOp a op b pos) g)(t:pS X Γ W es gs):pS X Γ W (.BinOp a op b pos::es) (g::gs):=cp h t rfl
theorem BL{a b}(h:PD X Γ W (.Subscript a b pos) g)(t:pS X Γ W es gs):pS X Γ W (.Subscript a b pos::es) (g::gs):=cp h t rfl
theorem sP{f as ks}(h:PD X Γ W (.Call f as ks pos) g)(t:pS X Γ W es gs):pS X Γ W (.Call f as ks pos::es) (g::gs):=cp h t rfl
theorem FI{xs c}(h:PD X Γ W (.Tuple xs c pos) g)(t:pS X Γ W es gs):pS X Γ W (.Tuple xs c pos::es) (g::gs):=cp h t rfl
end
def tQ:PySem.Expr->Option D
 |.Constant (.str s) _ _=>some (.str s)
 |.Constant (.int i) _ _=>some (.int i)
 |_=>none
def Eg:List PySem.Expr->Option (List D)
 |[]=>some []
 |e::es=>match tQ e,Eg es with
  |some d,some ds=>some (d::ds)
  |_,_=>none
theorem BH{X:Cx}{Γ:Ct}{W:XW}{e:PySem.Expr}{d:D}(h:tQ e=some d):PD X Γ W e (eC d)/\∀es:List PySem.Expr,starEach (e::es) X.env=(false,eval e X.env)::starEach es X.env:=by
 unfold tQ at h;split at h
 ·cases h;exact⟨aO,λ_=>rfl⟩
 ·cases h;exact⟨af,λ_=>rfl⟩
 ·cases h
theorem oS{X:Cx}{Γ:Ct}{W:XW}:∀{es:List PySem.Expr}{ds:List D},Eg es=some ds->pS X Γ W es (ds.map eC)
 |[],ds,h=>by cases h;exact ae
 |e::es,ds,h=>by
  unfold Eg at h;cases h1:tQ e with
  |none=>rw[h1] at h;cases h
  |some d=>
   cases h2:Eg es with
   |none=>rw[h1,h2] at h;cases h
   |some ds'=>
    rw[h1,h2] at h;cases h;obtain⟨p,st⟩:=BH (X:=X) (Γ:=Γ) (W:=W) h1;exact cp p (oS h2) (st es)
section
variable{X:Cx}{Γ:Ct}{W:XW}
theorem gG{i:Nat}{x:Str}{pos' pos:Pos}{e:Vd}{ge:ME}(hN:X.N.Nodup)(hi:X.N[i]?=some x)(he:PD X Γ W e ge)(hx:rO X.env.scope x:=by first|exact Or.inl rfl|exact Or.inr rfl)(hs:swapsWith e (some (.Name x pos')) pos.line X.env=pure false:=by rfl)
  (hf:X.fn x=true\/X.env.scope.names.lookup x=some .local:=by first|exact .inl rfl|exact .inr rfl|assumption):ox X Γ W (.Assign [.Name x pos'] e pos) (sSet i ge):=Dn hN hi hx he hs hf
theorem qm{j:Nat}{x:Str}{pos:Pos}(hN:X.N.Nodup)(hi:X.N[j]?=some x)(hx:rO X.env.scope x:=by first|exact Or.inl rfl|exact Or.inr rfl)(hf:X.fn x=true\/X.env.scope.names.lookup x=some .local:=by first|exact .inl rfl|exact .inr rfl|assumption):F2 X Γ (.Name x pos) [j] (aY j):=BK hN hi hx hf
end
end L3
namespace L3
open PySem PySem.Spec PyProof.Rows L2 PySem.SeqAt
section
variable{X:Cx}{Γ:Ct}{W:XW}{pins:List (Q9×Obj)}{σ:L2.St}{H:Hp}{s:Q8}
theorem ng(n:Nat)(ih:∀(d1 d2:D)(b:Bool)(v:V),pU n d1 d2=some b->bI Γ H d1 v->bI Γ H d2 v->b=true):∀(xs ys:List D)(vs:List V)(b:Bool),jN (pU n) xs ys=some b->RepL Γ H xs vs->RepL Γ H ys vs->b=true
 |[],[],vs,b,h,_,_=>by cases h;rfl
 |[],y::ys,vs,b,h,r1,r2=>by
  obtain⟨z,r,e,_,_⟩:=aK.mp r2;rw[bz.mp r1] at e;cases e
 |x::xs,[],vs,b,h,r1,r2=>by
  obtain⟨z,r,e,_,_⟩:=aK.mp r1;rw[bz.mp r2] at e;cases e
 |x::xs,y::ys,vs,b,h,r1,r2=>by
  obtain⟨z,r,e,p1,t1⟩:=aK.mp r1;obtain⟨z',r',e',p2,t2⟩:=aK.mp r2;rw[e] at e';cases e';have h:(pU n x y).bind (λb=>(jN (pU n) xs ys).bind λc=>some (b && c))=some b:=h;cases h1:pU n x y with
  |none=>rw[h1] at h;cases h
  |some b1=>
   rw[h1] at h;cases h2:jN (pU n) xs ys with
   |none=>rw[h2] at h;cases h
   |some b2=>
    rw[h2] at h;cases h;rw[ih x y b1 z h1 p1 p2,ng n ih xs ys r b2 h2 t1 t2];rfl
inductive CM(n:Nat):D->D->Bool->Prop
 |int (i j:Int):CM n (.int i) (.int j) (i == j)
 |str (x y:Str):CM n (.str x) (.str y) (x == y)
 |tup (xs ys:List D) (b:Bool) (h:jN (pU n) xs ys=some b):CM n (.tup xs) (.tup ys) b
 |lst (xs ys:List D) (b:Bool) (h:(if xs.length=ys.length then jN (pU n) xs ys else some false)=some b):CM n (.lst xs) (.lst ys) b
theorem yS{n:Nat}{d y:D}{b:Bool}(h:pU (n+1) d y=some b):CM n d y b:=by
 cases d with
 |int i=>
  cases y with
  |int j=>cases h;exact .int _ _
  |_=>cases h
 |str i=>
  cases y with
  |str j=>cases h;exact .str _ _
  |_=>cases h
 |tup i=>
  cases y with
  |tup j=>exact .tup _ _ _ h
  |_=>cases h
 |lst i=>
  cases y with
  |lst j=>exact .lst _ _ _ h
  |_=>cases h
 |_=>cases y <;> cases h
theorem yk(hK:X.K=Γ.K)(I:aD X pins σ H s){b:Bool}{a:Q9}{vs ws:List V}(q1:nr Γ.K H b a vs)(q2:nr Γ.K H b a ws):vs=ws:=I.seqX_inj (b:=b) (by rw[hK];exact q1) (by rw[hK];exact q2)
theorem pC(hK:X.K=Γ.K)(I:aD X pins σ H s):∀(n:Nat)(d1 d2:D)(b:Bool)(v:V),pU n d1 d2=some b->bI Γ H d1 v->bI Γ H d2 v->b=true
 |0,_,_,_,_,h,_,_=>by cases h
 |n+1,d1,d2,b,v,h,r1,r2=>by
  have ih:=pC hK I n;cases yS h with
  |int i j=>cases (ah.mp r1).symm.trans (ah.mp r2);exact beq_self_eq_true _
  |str x y=>cases (ar.mp r1).symm.trans (ar.mp r2);exact beq_self_eq_true _
  |tup xs ys b h=>
   obtain⟨a,vs,rfl,q1,l1⟩:=aS.mp r1;obtain⟨a',ws,e,q2,l2⟩:=aS.mp r2;cases e;cases yk hK I (b:=false) q1 q2;exact ng n ih xs ys vs b h l1 l2
  |lst xs ys b h=>
   obtain⟨a,vs,rfl,q1,l1⟩:=aH.mp r1;obtain⟨a',ws,e,q2,l2⟩:=aH.mp r2;cases e;cases yk hK I (b:=true) q1 q2;rw[if_pos (l1.length.trans l2.length.symm)] at h;exact ng n ih xs ys vs b h l1 l2
theorem lG(n:Nat){A:Vf}(ih:∀(d1 d2:D)(b:Bool)(x y:V)(v u:Q7),pU n d1 d2=some b->bI Γ H d1 x->bI Γ H d2 y->RelV x v->RelV y u->EqAt A s v u b){xs ys:List D}{vs ws:List V}{its its2:List Q7}{b:Bool}(h:jN (pU n) xs ys=some b)(l1:RepL Γ H xs vs)(l2:RepL Γ H ys ws)(r1:Vals vs its)(r2:Vals ws its2):
  ∀j (h1:j<its.toArray.size) (h2:j<its2.toArray.size),EqAt A s its.toArray[j] its2.toArray[j] (((xs[j]?).bind λx=>(ys[j]?).bind λy=>pU n x y) == some true):=by
 intro j h1 h2;have e1:=l1.length;have e2:=l2.length;have e3:=r1.length;have e4:=r2.length;rw[size_toArray] at h1 h2;have hx:xs[j]?=some xs[j]:=getElem?_eq_getElem (by omega)
 have hy:ys[j]?=some ys[j]:=getElem?_eq_getElem (by omega)
 obtain⟨c,hc⟩:=yR _ xs ys b h j _ _ hx hy;obtain⟨x,ex,rx⟩:=l1.get hx;obtain⟨y,ey,ry⟩:=l2.get hy;obtain⟨v,ev,rv⟩:=r1.get ex;obtain⟨u,eu,ru⟩:=r2.get ey;have ev':its[j]=v:=by rw[getElem?_eq_getElem h1] at ev;exact Option.some.inj ev
 have eu':its2[j]=u:=by rw[getElem?_eq_getElem h2] at eu;exact Option.some.inj eu
 rw[hx,hy];show EqAt A s its[j] its2[j] (pU n xs[j] ys[j] == some true);rw[hc,ev',eu',show(some c == some true)=c by cases c <;> rfl]
 exact ih _ _ c x y v u hc rx ry rv ru
theorem vX(hK:X.K=Γ.K)(I:aD X pins σ H s):∀(n:Nat)(A:Vf),A.units+n<cLine->∀(d1 d2:D)(b:Bool)(x y:V)(v u:Q7),pU n d1 d2=some b->bI Γ H d1 x->bI Γ H d2 y->RelV x v->RelV y u->EqAt A s v u b
 |0,_,_,_,_,_,_,_,_,_,h,_,_,_,_=>by cases h
 |n+1,A,hu,d1,d2,b,x,y,v,u,h,r1,r2,rx,ry=>by
  have ih:=vX hK I n A.in1 (by show A.units+1+n<cLine;omega)
  cases yS h with
  |int i j=>
    rw[ah.mp r1] at rx;rw[ah.mp r2] at ry;obtain⟨t,rfl⟩:=rx;obtain⟨t',rfl⟩:=ry;exact EqAt.int_int i t j t'
  |str z z'=>
    rw[ar.mp r1] at rx;rw[ar.mp r2] at ry;obtain⟨t,rfl⟩:=rx;obtain⟨t',rfl⟩:=ry;exact EqAt.str_str z t z' t'
  |tup xs ys _ h'=>
    obtain⟨a,vs,rfl,q1,l1⟩:=aS.mp r1;obtain⟨a',ws,rfl,q2,l2⟩:=aS.mp r2;cases rx;cases ry;by_cases c:a=a'
    ·subst c;rw[pC hK I (n+1) (.tup xs) (.tup ys) b (.ref a) h r1 r2];exact EqAt.same _
    ·obtain⟨its,v1,p1,_⟩:=I.tuple (by rw[hK];exact q1)
     obtain⟨its2,v2,p2,_⟩:=I.tuple (by rw[hK];exact q2)
     have e:=RcAt.tuples p1 p2 (A:=A) (by omega) (lG n ih h' l1 l2 v1 v2)
     rw[size_toArray,size_toArray,<-v1.length,<-v2.length,<-l1.length,<-l2.length,<-mw _ xs ys b h'] at e;exact EqAt.of_refs c e
  |lst xs ys _ h'=>
    obtain⟨a,vs,rfl,q1,l1⟩:=aH.mp r1;obtain⟨a',ws,rfl,q2,l2⟩:=aH.mp r2;cases rx;cases ry;by_cases c:a=a'
    ·subst c;rw[pC hK I (n+1) (.lst xs) (.lst ys) b (.ref a) h r1 r2];exact EqAt.same _
    ·obtain⟨its,v1,p1,_⟩:=I.list (by rw[hK];exact q1)
     obtain⟨its2,v2,p2,_⟩:=I.list (by rw[hK];exact q2)
     have s1:its.toArray.size=xs.length:=by rw[size_toArray,<-v1.length,<-l1.length]
     have s2:its2.toArray.size=ys.length:=by rw[size_toArray,<-v2.length,<-l2.length]
     by_cases hl:xs.length=ys.length
     ·rw[if_pos hl] at h';have e:=RcAt.lists p1.isList p2.isList (A:=A) (by rw[s1,s2,hl]) (by omega) (lG n ih h' l1 l2 v1 v2)
      have ea:=mw _ xs ys b h';rw[hl,Nat.min_self,beq_self_eq_true,Bool.and_true] at ea;rw[s1,hl,<-ea] at e;exact EqAt.of_refs c e
     ·rw[if_neg hl] at h';cases h';exact EqAt.of_refs c (RcAt.lists_lengths p1.isList p2.isList (by rw[s1,s2];simpa using hl) (by omega))
end
section
variable{X:Cx}{Γ:Ct}{W:XW}
theorem Gp{A:Vf}{k n:Nat}(hr:cg k A)(hn:n<=9:=by decide):A.units+n<cLine:=by
 have:=hr.un;omega
variable{i:Nat}{x:Str}{px apos cpos pos:Pos}
end
end L3
namespace L2
open PySem PySem.Spec PyProof.Rows PySem.W
end L2
namespace L3
open PySem PySem.Spec PyProof.Rows L2
section
variable{X:Cx}{Γ:Ct}{W:XW}
theorem DC{x:Str}{d:D}{v:V}{u:Q7}{pos:Pos}(hg:Gl X x)(hm:X.mg x=some u)(r:RelV v u)(rp:∀H,bI Γ H d v)(hd:(x == ("__debug__":Str))=false:=by decide):PD X Γ W (.Name x pos) (eC d):=jW (yt hg hm r hd) rp
def GV(mg:Str->Option Q7)(x:Str)(d:D):Prop:=∃u v,mg x=some u/\RelV v u/\∀(Γ:Ct)(H:Hp),bI Γ H d v
theorem GV.str{mg:Str->Option Q7}{x z:Str}{t:Tok}(h:mg x=some (.str z t)):GV mg x (.str z):=⟨_,.str z,h,⟨t,rfl⟩,λ_ _=>ar.mpr rfl⟩
theorem GV.int{mg:Str->Option Q7}{x:Str}{i:Int}{t:Tok}(h:mg x=some (.int i t)):GV mg x (.int i):=⟨_,.int i,h,⟨t,rfl⟩,λ_ _=>ah.mpr rfl⟩
theorem fN{x:Str}{d:D}{pos:Pos}(hg:Gl X x)(h:GV X.mg x d)(hd:(x == ("__debug__":Str))=false:=by decide):PD X Γ W (.Name x pos) (eC d):=by
 obtain⟨u,v,hm,r,rp⟩:=h;exact DC hg hm r (rp Γ) hd
theorem Du{tg e:Vd}{g:ME}(he:PD X Γ W e g):AC X Γ W tg e (E1 g):=PI.imp (Fw he) λpins s σ H Q I ⟨B0,B1,Hs,ρ,r,re,e,q⟩=>by
 unfold E1 at e;split at e
 ·rename_i x ex;cases e;refine⟨B0,B1,Hs,ρ,.ok (.sh (.str x)),re,ex,λv Hs1 H1 g1 rs=>⟨x,ar.mp (show bI Γ Hs1 (.str x) v from rs),q (JG x) Hs1 H1 g1 ?_⟩⟩;have hl:(signs x).length=x.cps.size:=by unfold signs;rw[length_map,length_toList]
  refine⟨λi Hs H hi _ _=>by rw[hl] at hi;exact hi,λHs H _ _=>le_of_eq hl.symm,λi Hs H x' H' hi _ sm y=>?_⟩
  obtain⟨rfl,c,hc,rfl⟩:=y;refine⟨sgn c,Hs,?_,.refl sm,ar.mpr rfl⟩;unfold signs;rw[getElem?_map,getElem?_toList,hc];rfl
 ·cases e
theorem DH:gd X (compareOp .In) (rD Γ W (Em false)):=λpins s σ H x y v u Q I rx ry ⟨Hs,d1,d2,r,sm,r1,r2,e,q⟩=>by
 obtain⟨c,z,rfl,rfl,rfl⟩:=Ag e;exact FP pins s σ H x y v u Q I rx ry ⟨c,z,ar.mp r1,ar.mp r2,cV sm q (aw.mpr rfl)⟩
theorem qU{e:Vd}{g:ME}{lo hi:Option Vd}{gl gh:Option ME}{pos p2:Pos}(he:PD X Γ W e g)(hl:GT X Γ W lo gl)(hh:GT X Γ W hi gh):PD X Γ W (.Subscript e (.Slice lo hi none p2) pos) (mx g gl gh):=
 PE.imp (v7 Fe he hl hh) λ_ _ σ H Q _ ⟨B0,B1,Hs,ρ,r,re,e,q⟩=>by
  refine(bu re e q).mono λv H1 ⟨Hs1,d,g1,re1,rp,e1,q1⟩=>?_;refine jX re1 e1 q1 λl H2 Hs2 g2 re2 e2 q2=>?_;refine jX re2 e2 q2 λu H3 Hs3 g3 re3 e3 q3=>?_;obtain⟨z,rfl,hz,rfl⟩:=Ae e3;exact⟨z,ar.mp rp,jF hz,cV re3.b.i q3 (ar.mpr rfl)⟩
variable{o e:Vd}{go ge:ME}{apos cpos:Pos}
theorem sM{name:Str}{id:Vg}{f:D->D->Option R}{r:V->List V->Hp->VK->Prop}(slot:Slot "str" name id)(hty:typeOf (.builtin id)=pure (.type "method_descriptor"))(hm:GL X id r)(ho:PD X Γ W o go)(he:PD X Γ W e ge)
  (hf:∀{Hs H:Hp}{d1 d2:D}{v y:V}{q:R}{Q:VK},aj Hs H->bI Γ Hs d1 v->bI Γ Hs d2 y->f d1 d2=some q->RQ Γ W Hs H q Q->r v [y] H Q)
  (hbase:attributeBase o name X.env (eval o X.env)=eval o X.env:=by rfl)
  (hfew:((backTo cpos (starEach [e] X.env)).all (λx=>!x.1) && (backToKw cpos (keywordEach [] X.env)).all (λx=>x.1.isSome) && decide ([e].length+([]:List Keyword).length+(if([]:List Keyword).isEmpty then 0 else 1)<30))=true:=by rfl)
  (hline:(apos.endLine == cpos.line)=true:=by rfl) (hs:starEach [e] X.env=(false,eval e X.env)::starEach [] X.env:=by rfl) (hplain:(backTo cpos (starEach [] X.env)).any (·.1)=false:=by rfl):
  PD X Γ W (.Call (.Attribute o name apos) [e] [] cpos) (dB f go ge):=
 PE.imp (qT PySem.F.plainAttrs_str slot hty hm ho (bH he de hs) hbase hfew hline hs hplain) λ_ _ σ H Q _ ⟨B0,B1,Hs,ρ,r,re,e,q⟩=>by
  refine(bu re e q).mono λv H1 ⟨Hs1,d,g1,re1,rp,e1,q1⟩=>?_;obtain⟨z,rfl,e1⟩:=B5 e1;refine⟨by rw[ar.mp rp];rfl,(bu re1 e1 q1).mono λy H2 ⟨Hs2,d2,g2,re2,rp2,e2,q2⟩=>?_⟩
  exact hf re2.b.i (rp.mono g2.s) rp2 e2 q2
theorem zT(ho:PD X Γ W o go)(he:PD X Γ W e ge)(hbase:attributeBase o "startswith" X.env (eval o X.env)=eval o X.env:=by rfl)
  (hfew:((backTo cpos (starEach [e] X.env)).all (λx=>!x.1) && (backToKw cpos (keywordEach [] X.env)).all (λx=>x.1.isSome) && decide ([e].length+([]:List Keyword).length+(if([]:List Keyword).isEmpty then 0 else 1)<30))=true:=by rfl)
  (hline:(apos.endLine == cpos.line)=true:=by rfl) (hs:starEach [e] X.env=(false,eval e X.env)::starEach [] X.env:=by rfl) (hplain:(backTo cpos (starEach [] X.env)).any (·.1)=false:=by rfl):
  PD X Γ W (.Call (.Attribute o "startswith" apos) [e] [] cpos) (dB kf go ge):=
 sM PySem.F.slot_str_startswith PySem.F.type_str_startswith qt ho he (λsm r1 r2 h q=>by
  obtain⟨a,b,rfl,rfl,rfl⟩:=tN h;exact⟨a,b,ar.mp r1,by rw[ar.mp r2],cV sm q (aw.mpr rfl)⟩) hbase hfew hline hs hplain
theorem mR{H:Hp}:∀{zs:List Str}{xs:List V},RepL Γ H (zs.map D.str) xs->xs=zs.map V.str
 |[],xs,h=>bz.mp h
 |z::zs,xs,h=>by
  obtain⟨x,r,rfl,q,t⟩:=aK.mp h;rw[ar.mp q,mR t];rfl
theorem oj(hK:X.K=Γ.K)(ho:PD X Γ W o go)(he:PD X Γ W e ge)(hbase:attributeBase o "join" X.env (eval o X.env)=eval o X.env:=by rfl)
  (hfew:((backTo cpos (starEach [e] X.env)).all (λx=>!x.1) && (backToKw cpos (keywordEach [] X.env)).all (λx=>x.1.isSome) && decide ([e].length+([]:List Keyword).length+(if([]:List Keyword).isEmpty then 0 else 1)<30))=true:=by rfl)
  (hline:(apos.endLine == cpos.line)=true:=by rfl) (hs:starEach [e] X.env=(false,eval e X.env)::starEach [] X.env:=by rfl) (hplain:(backTo cpos (starEach [] X.env)).any (·.1)=false:=by rfl):
  PD X Γ W (.Call (.Attribute o "join" apos) [e] [] cpos) (dB dh go ge):=
 sM PySem.F.slot_str_join PySem.F.type_str_join DQ ho he (λsm r1 r2 h q=>by
  obtain⟨a,zs,rfl,rfl,hj,rfl⟩:=w4 h;obtain⟨p,xs,rfl,sq,rl⟩:=aH.mp r2;rw[mR rl] at sq;exact⟨a,p,zs,ar.mp r1,rfl,by rw[hK];exact aj.seq sm sq,hj,cV sm q (ar.mpr rfl)⟩) hbase hfew hline hs hplain
theorem zd:cJ X (.type "int") (wo Γ W (f1 nJ)):=λpins s σ H xs us Q I rs ⟨Hs,ds,r,sm,rl,e,q,tb⟩=>by
 obtain⟨d,rfl,e⟩:=il e;obtain⟨x,rfl,rp⟩:=nE rl;obtain⟨z,n,rfl,hl,hn,rfl⟩:=xR e;exact qy pins s σ H _ us Q I rs ⟨z,n,by rw[ar.mp rp],hn,hl,cV sm q (ah.mpr rfl)⟩
theorem zc:cJ X (.type "str") (wo Γ W (f1 pF)):=λpins s σ H xs us Q I rs ⟨Hs,ds,r,sm,rl,e,q,tb⟩=>by
 obtain⟨d,rfl,e⟩:=il e;obtain⟨x,rfl,rp⟩:=nE rl;obtain⟨i,rfl,hl,rfl⟩:=xP e;exact tU pins s σ H _ us Q I rs ⟨i,by rw[ah.mp rp],hl,cV sm q (ar.mpr rfl)⟩
end
end L3
namespace L2
open PySem PySem.Spec
end L2
namespace L3
open PySem PySem.Spec PyProof.Rows L2
section
variable{X:Cx}{Γ:Ct}{W:XW}{pos:Pos}
theorem zV{j k l:Nat}{x y z:Str}{px py pz:Pos}{kt:Nat}(hK:X.K=Γ.K)(hc:X.calm=true)(hN:X.N.Nodup)(hj:X.N[j]?=some x)(hk:X.N[k]?=some y)(hl:X.N[l]?=some z)(hx:rO X.env.scope x)(hy:rO X.env.scope y)(hz:rO X.env.scope z)
  (fx:X.fn x=true\/X.env.scope.names.lookup x=some .local:=by first|exact .inl rfl|exact .inr rfl|assumption) (fy:X.fn y=true\/X.env.scope.names.lookup y=some .local:=by first|exact .inl rfl|exact .inr rfl|assumption) (fz:X.fn z=true\/X.env.scope.names.lookup z=some .local:=by first|exact .inl rfl|exact .inr rfl|assumption)
  (hn:(assignEach [.Name x px,.Name y py,.Name z pz] X.env).length=3:=by rfl) (hst:(assignEach [.Name x px,.Name y py,.Name z pz] X.env).findIdx? (·.1)=none:=by rfl)
  (hs1:(assignEach [.Name x px,.Name y py,.Name z pz] X.env).map (·.2)=assign (.Name x px) X.env::(assignEach [.Name y py,.Name z pz] X.env).map (·.2):=by rfl) (hs2:(assignEach [.Name y py,.Name z pz] X.env).map (·.2)=assign (.Name y py) X.env::(assignEach [.Name z pz] X.env).map (·.2):=by rfl) (hs3:(assignEach [.Name z pz] X.env).map (·.2)=assign (.Name z pz) X.env::(assignEach [] X.env).map (·.2):=by rfl):
  F2 X Γ (.Tuple [.Name x px,.Name y py,.Name z pz] kt pos) [j,k,l] (mH [j,k,l]):=
 PG.imp (Bx hc (jB (ia hN hj hx fx) (jB (ia hN hk hy fy) (jB (ia hN hl hz fz) yr hs3) hs2) hs1) hn hst) λpins s v σ H Q I ⟨B0,B1,Hs,ρ,d,ρ',re,rp,e,q⟩=>by
  have lj:j<σ.length:=by rw[I.len];exact(List.getElem?_eq_some_iff.mp hj).1
  have lk:k<σ.length:=by rw[I.len];exact(List.getElem?_eq_some_iff.mp hk).1
  have ll:l<σ.length:=by rw[I.len];exact(List.getElem?_eq_some_iff.mp hl).1
  cases d with
  |tup ds=>
   unfold mH at e;dsimp only at e;split at e
   ·rename_i hl;cases e
    match ds,hl with
    |[d1,d2,d3],_=>
     obtain⟨a,xs,rfl,sq,rl⟩:=aS.mp rp;obtain⟨x1,r1,rfl,q1,rl⟩:=aK.mp rl;obtain⟨x2,r2,rfl,q2,rl⟩:=aK.mp rl;obtain⟨x3,r3,rfl,q3,rl⟩:=aK.mp rl;obtain rfl:=bz.mp rl;refine⟨a,[x1,x2,x3],rfl,by rw[hK];exact b9 re.b.i sq,rfl,x1,[x2,x3],rfl,x2,[x3],rfl,x3,[],rfl,rfl,?_⟩
     exact q _ (((re.setSh lj q1).setSh (by rw[length_set];exact lk) q2).setSh (by rw[length_set,length_set];exact ll) q3) λi hi=>by
      rw[getElem?_set_ne λz=>hi (by simp[z]),getElem?_set_ne λz=>hi (by simp[z]),getElem?_set_ne λz=>hi (by simp[z])]
   ·cases e
  |_=>cases e
end
def iq(P:Va)(w:Vb)(K:Frag)(mg:Str->Option Q7)(base:Vc)(Γ:Ct)(k:Nat)(m:Str)(ps:List Str)(F:MF)(c:Vg):Prop:=
 ∃f fd,eI P w K mg base kA k f fd ps (J1 Γ F)/\fZ K fd ps []/\iC K (Γ.cls c)/\CL K (Γ.cls c) m f
section
variable{X:Cx}{Γ:Ct}{W:XW}{st:Ve}{e:Vd}
theorem jU:ox X Γ W st kU:=λ_ _ _ _ _ _ ⟨_,_,_,_,_,_,e,_⟩=>nomatch e
theorem wU{sts:List Ve}:iV X Γ W sts kU:=λ_ _ _ _ _ _ ⟨_,_,_,_,_,_,e,_⟩=>nomatch e
end
def kD(j:Nat)(g:MP):MC:=λρ=>(g ρ).bind λp=>match p.2[j]? with
 |some (some (.own (.par a o)))=>some (.ret (.two p.1 a o))
 |_=>none
section
variable{X:Cx}{Γ:Ct}{W:XW}{i j:Nat}{x:Str}{px pos apos cpos:Pos}{e a:Vd}{g:MP}{ga:ME}
theorem jA(he:PM X Γ e g):ox X Γ W (.Return (some e) pos) (kD j g):=PS.imp (wW he) λpins s σ H D I ⟨B0,B1,Hs,ρ,o,re,e,q⟩=>by
 unfold kD at e;cases h:g ρ with
 |none=>rw[h] at e;cases e
 |some p=>
  rw[h] at e;dsimp only[Option.bind_some] at e;refine⟨B0,B1,Hs,ρ,p.1,p.2,re,h,λv Hs' H' sm re' rp=>?_⟩;split at e
  ·rename_i c u hd;cases e;obtain⟨c',ho,f1,f2,f3,f4,f5⟩:=re'.own j _ hd;have f6:c'=c/\cQ Γ Hs' c' u ho:=f5;obtain⟨z,f7⟩:=f6;subst z;exact q v Hs' H' sm re'.b ⟨rp,ho,f3,f4,f7⟩
  ·cases e
end
section
variable{P:Va}{w:Vb}{K:Frag}{mg:Str->Option Q7}{base:Vc}{Γ:Ct}
theorem fA{x qual:Str}{st:Ve}{N ps:List Str}{k:Nat}{g:MC}{c:Vg}(L:di K Γ.cls x qual st ps [c])(S:aE N ps (aa st))(hN:ps.length<=N.length)
  (body:∀(f:Q9)(cdv:Q7)(A:Vf)(outer:List PySem.Env)(s:Q8)(H:Hp)(E:XK),cg k (A.deeper (envOfC qual (aa st) s.heap.objs.size f cdv))->iV (jP kA P w K mg base N qual (aa st) f cdv A outer s H E).nox Γ W0 (ao st) g):
  iq P w K mg base Γ (k+1) x ps (A9 0 ps.length N.length g) c:=by
 obtain⟨f,fd,F,hb,hc⟩:=L.ex;exact⟨f,fd,Jx F S hN (body f),hb,(hc c mem_cons_self).1,(hc c mem_cons_self).2⟩
end
section
variable{Γ:Ct}{H:Hp}
theorem ai.ofL:∀{ds:List D}{xs:List V},RepL Γ H ds xs->ai Γ H (ds.map .sh) xs []
 |[],_,r=>by
  rw[bz.mp r];show ai Γ H [] [] [];unfold ai;exact⟨rfl,rfl⟩
 |d::ds,_,r=>by
  obtain⟨x,r',rfl,q,t⟩:=aK.mp r;show ai Γ H (.sh d::ds.map .sh) _ _;unfold ai;exact⟨x,r',[],[],rfl,rfl,by unfold hU;exact⟨rfl,q⟩,ai.ofL t⟩
theorem ai.snocL{ds:List D}{xs:List V}{p:Q9}(rl:RepL Γ H ds xs):∀{us:List Tr}{vs:List V}{T:List (Q9×List V)},ai Γ H us vs T->ai Γ H (us++[.lst (ds.map .sh)]) (vs++[.ref p]) (T++[(p,xs)])
 |[],_,_,r=>by
  unfold ai at r;obtain⟨rfl,rfl⟩:=r;show ai Γ H [.lst (ds.map .sh)] [.ref p] [(p,xs)];unfold ai;exact⟨.ref p,[],[(p,xs)],[],rfl,rfl,by unfold hU;exact⟨p,xs,[],rfl,rfl,.ofL rl⟩,by unfold ai;exact⟨rfl,rfl⟩⟩
 |t::us,_,_,r=>by
  unfold ai at r;obtain⟨x,r',T1,T2,rfl,rfl,h3,h4⟩:=r;show ai Γ H (t::(us++[.lst (ds.map .sh)])) (x::(r'++[.ref p])) _;unfold ai;exact⟨x,r'++[.ref p],T1,T2++[(p,xs)],rfl,by rw[append_assoc],h3,ai.snocL rl h4⟩
end
def mP(cs:List Vg)(i:Nat)(f:Str)(e:ME):MC:=λρ=>(f9 i ρ).bind λp=>match p.2 with
 |.ins c ns ts=>if cs.contains c=true then(uc f ns).bind λk=>match ts[k]?,e (ρ.set i none) with
  |some (.lst us),some (.ok (.own (.lst ds)))=>if us.length<lim then some (.next (ρ.set i (some (.own (p.1.put (.tre (.ins c ns (ts.set k (.lst (us++[.lst (ds.map .sh)])))))))))) else none
  |_,_=>none else none
 |_=>none
theorem uO{cs:List Vg}{i:Nat}{f:Str}{e:ME}{ρ:aA}{out:kh}(h:mP cs i f e ρ=some out):∃o c ns ts k us ds,f9 i ρ=some (o,.ins c ns ts)/\cs.contains c=true/\uc f ns=some k/\ts[k]?=some (.lst us)/\e (ρ.set i none)=some (.ok (.own (.lst ds)))/\us.length<lim/\out=.next (ρ.set i (some (.own (o.put (.tre (.ins c ns (ts.set k (.lst (us++[.lst (ds.map .sh)]))))))))):=by
 unfold mP at h;obtain⟨⟨o,t⟩,h1,h⟩:=Option.bind_eq_some_iff.mp h;dsimp only at h;split at h
 ·rename_i c ns ts;split at h
  ·rename_i hc;obtain⟨k,h2,h⟩:=Option.bind_eq_some_iff.mp h;split at h
   ·rename_i us ds h3 h4;split at h
    ·rename_i hl;cases h;exact⟨o,c,ns,ts,k,us,ds,h1,hc,h2,h3,h4,hl,rfl⟩
    ·cases h
   ·cases h
  ·cases h
 ·cases h
section
variable{X:Cx}{Γ:Ct}{i:Nat}{x f:Str}{e:Vd}{ge:ME}{px fpos apos cpos pos:Pos}{cs:List Vg}
theorem zP(hK:X.K=Γ.K)(hC:∀c∈cs,iC Γ.K (Γ.cls c)/\b0 Γ.K (Γ.cls c) f)(htb:∀b o,Γ.tb b=some o->∃g,o=.tab g)(hv:PE X (.Name x px) (mL i))(he:PD X Γ W0 e ge)
  (hb:attributeBase (.Name x px) f X.env (eval (.Name x px) X.env)=eval (.Name x px) X.env:=by rfl) (hs:starEach [e] X.env=(false,eval e X.env)::starEach [] X.env:=by rfl)
  (hbase:attributeBase (.Attribute (.Name x px) f fpos) "append" X.env (eval (.Attribute (.Name x px) f fpos) X.env)=eval (.Attribute (.Name x px) f fpos) X.env:=by rfl)
  (hfew:((backTo cpos (starEach [e] X.env)).all (λx=>!x.1) && (backToKw cpos (keywordEach [] X.env)).all (λx=>x.1.isSome) && decide ([e].length+([]:List Keyword).length+(if([]:List Keyword).isEmpty then 0 else 1)<30))=true:=by rfl)
  (hline:(apos.endLine == cpos.line)=true:=by rfl) (hplain:(backTo cpos (starEach [] X.env)).any (·.1)=false:=by rfl) (hsw:swapsWith (.Call (.Attribute (.Attribute (.Name x px) f fpos) "append" apos) [e] [] cpos) none pos.line X.env=pure false:=by rfl):
  ox X Γ W0 (.Expr (.Call (.Attribute (.Attribute (.Name x px) f fpos) "append" apos) [e] [] cpos) pos) (mP cs i f ge):=
 PS.imp (lZ (jV (qT PySem.F.plainAttrs_list PySem.F.slot_list_append PySem.F.type_list_append iM (oR hv hb) (bH he de hs) hbase hfew hline hs hplain) hsw)) λpins s σ H En I ⟨B0,B1,Hs,ρ,out,re,eo,q⟩=>by
  obtain⟨o,c,ns,ts,k,us,ds,h1,hc,h2,h3,h4,hl,rfl⟩:=uO eo;obtain⟨hd,ho⟩:=dQ h1;obtain⟨a,hx,f1,f2,f3,f4,f5⟩:=re.own i o hd;have f6:=f5.core;rw[ho] at f6;obtain⟨u,T,rfl,dx,xs,rfl,rt⟩:=f6;obtain⟨_,nd,ff⟩:=(show bM X.prog X.w H s.heap a (.big (.ins (Γ.cls c) dx (ns.zip xs)) T) from I.hok a _ f4);have ha:∀p∈T,p.1≠a:=λp hp=>(ff p hp).1;have hT:∀p∈T,H p.1=some (.own a):=λp hp=>(ff p hp).2.1;obtain⟨l,vs,T1,T',T2,e1,eT,r1,r2⟩:=rt.at h3;have hm:(l,vs)∈T:=by rw[eT];simp
  have hlM:bj a (.ins (Γ.cls c) dx (ns.zip xs)) T l=some (.lst vs):=by rw[ba (ha _ hm),aX nd hm];rfl
  obtain⟨c1,c2⟩:=hC c (by simpa using hc)
  obtain⟨reH,_⟩:=og (u:=.ins (Γ.cls c) dx (ns.zip xs)) re hd f1 f3 hT htb;refine⟨a,_,T,f4,True.intro,.ref a,f1,a,_,dx,_,.ref l,rfl,aP dy,hK▸c1,hK▸c2,gV h2 e1,.inl ⟨rfl,vs,.of (aP hlM)⟩,_,_,_,_,_,reH,h4,λy Hs1 H1 g1 rs=>?_⟩;obtain⟨p,_,rfl,k0,k1,k2,ys,rfl,rl⟩:=rs;refine⟨l,vs,.ref p,rfl,rfl,g1.h _ _ (aP hlM),by rw[<-r1.len];exact lt_of_lt_of_le hl (by decide),?_⟩
  refine BP (A:=T') (t':=Tr.ins c ns (ts.set k (Tr.lst (us++[Tr.lst (ds.map Tr.sh)])))) re hd f1 f3 f5 True.intro nd ha hT eT g1 k0 k1 k2 (λHf s1 s2=>⟨dx,xs,rfl,?_⟩) q;have z:=r2 Hf (iF s1) _ _ _ (ai.snocL (p:=p) (rl.mono s2) (ai.monoX (iF s1) r1));rw[append_assoc] at z;exact z
end
theorem Dz{X:Cx}{i:Int}{j:Nat}{p pos:Pos}:PE X (.UnaryOp .USub (.Constant (.int i) j p) pos) (tC (.int (-i))):=PE.imp (EM AU x4) λ_ _ _ _ _ _ h=>⟨i,rfl,h⟩
abbrev MT:=aA->Option (Bool×aA)
inductive JZ(Γ:Ct)(g:MT)(σ:L2.St)(H:Hp)(Q:Bool->Hp->Prop):Prop
 |mk (B0 B1 Hs:Hp) (ρ:aA) (b:Bool) (ρ':aA) (re:RE Γ B0 B1 Hs H σ ρ) (e:g ρ=some (b,ρ')) (q:∀Hs' H',aj Hs Hs'->RE Γ B0 B1 Hs' H' σ ρ'->Q b H')
abbrev ID(X:Cx)(Γ:Ct)(e:Vd)(g:MT):Prop:=PT X e (JZ Γ g)
def Fk(c:MT)(a b:MC):MC:=λρ=>(c ρ).bind λp=>if p.1=true then a p.2 else b p.2
section
variable{X:Cx}{Γ:Ct}{W:XW}{a b c:Vd}{g:MP}{gb:ME}{gc:MT}{rest:List Vd}{sa sb:List Ve}{g1 g2:MC}{pos:Pos}
theorem Dp(hc:ID X Γ c gc)(ha:iV X Γ W sa g1)(hb:iV X Γ W sb g2):ox X Γ W (.If c sa sb pos) (Fk gc g1 g2):=PS.imp (EL hc ha hb) λpins s σ H D I ⟨B0,B1,Hs,ρ,o,re,e,q⟩=>by
 obtain⟨p,h,e⟩:=Option.bind_eq_some_iff.mp e;refine⟨B0,B1,Hs,ρ,p.1,p.2,re,h,λHs1 H1 sm1 re1=>?_⟩;cases hp:p.1 with
 |true=>rw[hp,if_pos rfl] at e;exact⟨B0,B1,Hs1,p.2,o,re1,e,q.from sm1⟩
 |false=>rw[hp,if_neg nofun] at e;exact⟨B0,B1,Hs1,p.2,o,re1,e,q.from sm1⟩
end
theorem Ax{xs:List V}{v:V}(h:xs[xs.length - 1]?=some v):EB xs (-1)=some v:=by
 have h0:xs≠[]:=λz=>by subst z;cases h
 have hl:0<xs.length:=List.length_pos_iff.mpr h0;have:DW xs.length (-1)=some (xs.length - 1):=by
  unfold DW;rw[if_neg (by omega)]
  first
  | (rw[if_pos (by omega)];congr 1;omega)
  | (split <;> first|(congr 1;omega)|omega)
 unfold EB;rw[this];exact h
def mQ(cs:List Vg)(i:Nat)(f:Str)(e:ME):MC:=λρ=>(f9 i ρ).bind λp=>match p.2 with
 |.ins c ns ts=>if cs.contains c=true then(uc f ns).bind λk=>match ts[k]?,e (ρ.set i none) with
  |some (.lst us),some (.ok s)=>(match us[us.length - 1]? with
   |some (.lst ws)=>if ws.length<lim then some (.next (ρ.set i (some (.own (p.1.put (.tre (.ins c ns (ts.set k (.lst (us.set (us.length - 1) (.lst (ws++[.sh s.val])))))))))))) else none
   |_=>none)
  |_,_=>none else none
 |_=>none
theorem uP{cs:List Vg}{i:Nat}{f:Str}{e:ME}{ρ:aA}{out:kh}(h:mQ cs i f e ρ=some out):∃o c ns ts k us ws s,f9 i ρ=some (o,.ins c ns ts)/\cs.contains c=true/\uc f ns=some k/\ts[k]?=some (.lst us)/\us[us.length - 1]?=some (.lst ws)/\e (ρ.set i none)=some (.ok s)/\ws.length<lim/\out=.next (ρ.set i (some (.own (o.put (.tre (.ins c ns (ts.set k (.lst (us.set (us.length - 1) (.lst (ws++[.sh s.val]))))))))))):=by
 unfold mQ at h;obtain⟨⟨o,t⟩,h1,h⟩:=Option.bind_eq_some_iff.mp h;dsimp only at h;split at h
 ·rename_i c ns ts;split at h
  ·rename_i hc;obtain⟨k,h2,h⟩:=Option.bind_eq_some_iff.mp h;split at h
   ·rename_i us s h3 h4;split at h
    ·rename_i ws h5;split at h
     ·rename_i hl;cases h;exact⟨o,c,ns,ts,k,us,ws,s,h1,hc,h2,h3,h5,h4,hl,rfl⟩
     ·cases h
    ·cases h
   ·cases h
  ·cases h
 ·cases h
section
variable{X:Cx}{Γ:Ct}{i:Nat}{x f:Str}{e ix:Vd}{ge:ME}{px fpos spos apos cpos pos:Pos}{cs:List Vg}
theorem zQ(hK:X.K=Γ.K)(hC:∀c∈cs,iC Γ.K (Γ.cls c)/\b0 Γ.K (Γ.cls c) f)(htb:∀b o,Γ.tb b=some o->∃g,o=.tab g)(hv:PE X (.Name x px) (mL i))(hi:PE X ix (tC (.int (-1))))(he:PD X Γ W0 e ge)(hpi:ua ix:=by exact λ_ _=>rfl)
  (hb:attributeBase (.Name x px) f X.env (eval (.Name x px) X.env)=eval (.Name x px) X.env:=by rfl) (hs:starEach [e] X.env=(false,eval e X.env)::starEach [] X.env:=by rfl)
  (hbase:attributeBase (.Subscript (.Attribute (.Name x px) f fpos) ix spos) "append" X.env (eval (.Subscript (.Attribute (.Name x px) f fpos) ix spos) X.env)=eval (.Subscript (.Attribute (.Name x px) f fpos) ix spos) X.env:=by rfl)
  (hfew:((backTo cpos (starEach [e] X.env)).all (λx=>!x.1) && (backToKw cpos (keywordEach [] X.env)).all (λx=>x.1.isSome) && decide ([e].length+([]:List Keyword).length+(if([]:List Keyword).isEmpty then 0 else 1)<30))=true:=by rfl)
  (hline:(apos.endLine == cpos.line)=true:=by rfl) (hplain:(backTo cpos (starEach [] X.env)).any (·.1)=false:=by rfl) (hsw:swapsWith (.Call (.Attribute (.Subscript (.Attribute (.Name x px) f fpos) ix spos) "append" apos) [e] [] cpos) none pos.line X.env=pure false:=by rfl):
  ox X Γ W0 (.Expr (.Call (.Attribute (.Subscript (.Attribute (.Name x px) f fpos) ix spos) "append" apos) [e] [] cpos) pos) (mQ cs i f ge):=
 PS.imp (lZ (jV (qT PySem.F.plainAttrs_list PySem.F.slot_list_append PySem.F.type_list_append iM (EN yK (oR hv hb) hi hpi) (bH he de hs) hbase hfew hline hs hplain) hsw)) λpins s σ H En I ⟨B0,B1,Hs,ρ,out,re,eo,q⟩=>by
  obtain⟨o,c,ns,ts,k,us,ws,sv,h1,hc,h2,h3,h3',h4,hl,rfl⟩:=uP eo;obtain⟨hd,ho⟩:=dQ h1;obtain⟨a,hx,f1,f2,f3,f4,f5⟩:=re.own i o hd;have f6:=f5.core;rw[ho] at f6;obtain⟨u,T,rfl,dx,xs,rfl,rt⟩:=f6;obtain⟨_,nd,ff⟩:=(show bM X.prog X.w H s.heap a (.big (.ins (Γ.cls c) dx (ns.zip xs)) T) from I.hok a _ f4);have ha:∀p∈T,p.1≠a:=λp hp=>(ff p hp).1;have hT:∀p∈T,H p.1=some (.own a):=λp hp=>(ff p hp).2.1;obtain⟨l,vs,T1,T',T2,e1,eT,r1,r2⟩:=rt.at h3;obtain⟨m,zs,A,T'',B,e3,eT',r3,r4⟩:=r1.at h3';have eT2:T=(T1++(l,vs)::A)++(m,zs)::(T''++(B++T2)):=by rw[eT,eT'];simp
  have hm:(l,vs)∈T:=by rw[eT];simp
  have hm2:(m,zs)∈T:=by rw[eT2];simp
  have hlM:bj a (.ins (Γ.cls c) dx (ns.zip xs)) T l=some (.lst vs):=by rw[ba (ha _ hm),aX nd hm];rfl
  have hmM:bj a (.ins (Γ.cls c) dx (ns.zip xs)) T m=some (.lst zs):=by rw[ba (ha _ hm2),aX nd hm2];rfl
  obtain⟨c1,c2⟩:=hC c (by simpa using hc)
  obtain⟨reH,_⟩:=og (u:=.ins (Γ.cls c) dx (ns.zip xs)) re hd f1 f3 hT htb;refine⟨a,_,T,f4,True.intro,.ref a,f1,a,_,dx,_,.ref l,rfl,aP dy,hK▸c1,hK▸c2,gV h2 e1,l,vs,-1,.ref m,rfl,rfl,.of (aP hlM),Ax (by rw[<-r1.len];exact e3),.inl ⟨rfl,zs,.of (aP hmM)⟩,_,_,_,_,_,reH,h4,λy Hs1 H1 g1 rs=>?_⟩
  obtain⟨Hs2,g2,_,rp⟩:=rs.share g1;refine⟨m,zs,y,rfl,rfl,g2.h _ _ (aP hmM),by rw[<-r3.len];exact lt_of_lt_of_le hl (by decide),?_⟩
  refine p4 (t':=Tr.ins c ns (ts.set k (Tr.lst (us.set (us.length - 1) (Tr.lst (ws++[Tr.sh sv.val])))))) re hd f1 f3 f5 True.intro nd ha hT eT2 g2 (λHf s1 s2=>⟨dx,xs,rfl,?_⟩) q;have z:=r2 Hf (iF s1) _ vs _ (r4 Hf (iF s1) (ws++[Tr.sh sv.val]) (zs++[y]) _ ((ai.monoX (iF s1) r3).snoc (rp.mono s2)));simp only[append_assoc,cons_append] at z ⊢;exact z
end
end L3
namespace L2
open PySem PySem.Spec PyProof.Rows
section
variable{X:Cx}{CX:AD}{C f:Q9}{m:Str}{fd:FuncData}{ps:List Str}{sp:Sp}{k:Nat}{apos pos:Pos}{o e:Vd}{es:List Vd}{ta:TE}{t:TA}{E:XK}{dvs:List V}{ds:List Q7}
def F5(C:Q9)(m:Str)(sp:Sp)(dvs:List V)(E:XK)(ta:TE)(t:TA):TE:=λσ H Q=>ta σ H λx H1=>∃a dx fs T,x=.ref a/\H1 a=some (.big (.ins C dx fs) T)/\fs.lookup m=none/\t σ H1 λvs H2=>sp (x::(vs++dvs)) H2 Q E
theorem By{pl:Sem Bool}(he:PE X o ta)(c:iC X.K C)(hm:CL X.K C m f)(F:eI X.prog X.w X.K X.mg X.base CX k f fd ps sp)(hr:cg k X.A)(hb:fZ X.K fd ps ds)(hd:Vals dvs ds)(hx:nu CX X E)(ha:PA X (e::es) t)
  (hst:starEach (e::es) X.env=(false,eval e X.env)::starEach es X.env:=by rfl) (hpl:(backTo pos (starEach es X.env)).any (·.1)=false:=by rfl)
  (ht:eval (.Call (.Attribute o m apos) (e::es) [] pos) X.env=(do
   let ov <-eval o X.env
   standAt apos.atName
   let (f,first) <-holding [ov] (getMethod ov m pl)
   callWith pos f first (backTo pos (starEach (e::es) X.env)) (backToKw pos (keywordEach [] X.env))):=by rfl):
  PE X (.Call (.Attribute o m apos) (e::es) [] pos) (F5 C m sp dvs E ta t):=by
 intro pins s σ H Q I h;refine PySem.W.methodCall_KW (pl:=pl) (cA (he pins s σ H _ I h) λu s1 ⟨x,H1,I1,rx,a,dx,fs,T,ex,ea,l,q⟩=>?_) ht;subst ex;obtain rfl:u=Value.ref a:=rx;refine pw (I1.opn ea True.intro) (aP dy) c hm l ?_;refine PySem.W.callWith_K (first:=[.ref a]) (h₀:=X.base) I.ok.mod.kin hm.kp (cA (ha pos pins s1 σ H1 _ I1 q) λus s2 ⟨vs,H2,I2,r,q2⟩=>⟨I2.kIn,?_⟩) hst hpl
 exact wQ (us:=.ref a::us) (vs:=.ref a::vs) F hr hb hd hx I2 (.cons rfl r) q2
end
end L2
namespace L3
open PySem PySem.Spec PyProof.Rows L2
def gj(c:Vg)(i:Nat)(m:Str)(F:MF)(gs:List ME):MP:=λρ=>(f9 i ρ).bind λp=>match p.2 with
 |.ins c' ns _=>if c'=c/\ns.contains m=false then yE i F [] gs ρ else none
 |_=>none
section
variable{X:Cx}{Γ:Ct}{k i:Nat}{ps:List Str}{x m:Str}{px pos apos:Pos}{e:Vd}{es:List Vd}{gs:List ME}{F:MF}{c:Vg}
theorem vC{ρ ρ':aA}{d:D}(h:gj c i m F gs ρ=some (d,ρ')):∃o ns ts es o',ρ[i]?=some (some (.own o))/\o.core=.tre (.ins c ns ts)/\ns.contains m=false/\fD gs ρ=some es/\F o.core [] es=some (d,o')/\ρ'=ρ.set i (some (.own (o.put o'))):=by
 unfold gj at h;obtain⟨⟨o,t⟩,h1,h⟩:=Option.bind_eq_some_iff.mp h;obtain⟨hd,ec⟩:=dQ h1;dsimp only at h;split at h
 ·rename_i c' ns ts;split at h
  ·rename_i hc;obtain⟨o2,ds2,es2,o',hd2,e1,e2,e3,e4⟩:=xx h;rw[hd] at hd2;cases hd2;cases e1;exact⟨o,ns,ts,es2,o',hd,by rw[ec,hc.1],hc.2,e2,e3,e4⟩
  ·cases h
 ·cases h
theorem iG{pl:Sem Bool}(h:iq X.prog X.w X.K X.mg X.base Γ k m ps F c)(hr:cg k X.A)(hv:PE X (.Name x px) (mL i))(ha:pS X Γ W0 (e::es) gs)
  (hst:starEach (e::es) X.env=(false,eval e X.env)::starEach es X.env:=by rfl) (hpl:(backTo pos (starEach es X.env)).any (·.1)=false:=by rfl)
  (ht:eval (.Call (.Attribute (.Name x px) m apos) (e::es) [] pos) X.env=(do
   let ov <-eval (.Name x px) X.env
   standAt apos.atName
   let (f,first) <-holding [ov] (getMethod ov m pl)
   callWith pos f first (backTo pos (starEach (e::es) X.env)) (backToKw pos (keywordEach [] X.env))):=by rfl):
  PM X Γ (.Call (.Attribute (.Name x px) m apos) (e::es) [] pos) (gj c i m F gs):=by
 obtain⟨f,fd,G,hb,c1,c2⟩:=h;refine PE.imp (By (E:=E0) (dvs:=[]) (ds:=[]) (pl:=pl) hv c1 c2 G hr hb .nil va ha hst hpl ht) λ_ _ σ H Q _ ⟨B0,B1,Hs,ρ,d,ρ',re,e,q⟩=>?_;obtain⟨o,ns,ts,es',o',hd,ec,hn,e2,e3,rfl⟩:=vC e;obtain⟨a,ho,f1,f2,f3,f4,f5⟩:=re.own i o hd;have f6:=f5.core;rw[ec] at f6;obtain⟨u,T,rfl,dx,xs,rfl,rt⟩:=f6;refine⟨.ref a,f1,a,dx,_,T,rfl,f4,gm hn,eG gs (λvs H1 ⟨Hs1,g1,r2⟩=>?_) (pO gs re e2)⟩;show JM Γ F (.ref a::(vs++[])) H1 Q;rw[append_nil];have re1:=re.grow g1;exact⟨a,[],vs,Hs1,o.core,_,[],es',d,o',rfl,re1.b.i,g1.none f3 f4,g1.h _ _ f4,(f5.mono g1.s).core,.nil,r2,e3,λv Hs' H' ho' gx hn hh ro rp=>q v Hs' H' (g1.s.trans gx.s) (re1.called hd f1 gx hn hh (cQ.put f5 ro)) rp,re1.tb⟩
end
end L3
namespace L2
open PySem PySem.Spec PyProof.Rows
section
variable{X:Cx}{sts:List Ve}{t:TS}{C:Q9}{f x:Str}{px p1 p2 pos:Pos}{i:Nat}
def EH(t:TS):TS:=λD σ H=>t {nx:=λσ' H1=>∃a u T,nY u/\(T.map (·.1)).Nodup/\(∀p∈T,p.1≠a)/\(∀b o,bj a u T b=some o->H1 b=some o)/\D.nx σ' (iJ (oq a u T) H1),bk:=λ_ _=>False,ct:=λ_ _=>False,rt:=λ_ _=>False} σ H
theorem Bo(h:nv X sts t):nv X sts (EH t):=by
 intro pins s σ H D I q;refine cA (h pins s σ _ _ I q) λfl s' z=>?_;cases fl with
 |next=>obtain⟨σ',H1,I1,a,u,T,r',nd,ha,e2,q2⟩:=z;exact⟨σ',_,I1.cls r' nd ha e2,q2⟩
 |brk=>obtain⟨_,_,_,q⟩:=z;exact q.elim
 |cont=>obtain⟨_,_,_,q⟩:=z;exact q.elim
 |ret v=>obtain⟨_,_,_,_,_,q⟩:=z;exact q.elim
def C8(C dx a:Q9):List Str->List (Str×V)->Hp->(List (Str×V)->Hp->Prop)->Prop
 |[],fs,H,K=>K fs H
 |f::r,fs,H,K=>∀p,H p=none->C8 C dx a r (iu f (.ref p) fs) (bW (bW H p (.lst [])) a (.ins C dx (iu f (.ref p) fs))) K
def qG(C:Q9)(i:Nat)(ns:List Str):TS:=λD σ H=>∃a dx fs,σ[i]?=some (some (.ref a))/\H a=some (.ins C dx fs)/\fs.length+ns.length<900/\C8 C dx a ns fs H λ_ H'=>D.nx σ H'
theorem Dh:nv X [] (qG C i []):=λpins s σ H D I ⟨a,dx,fs,_,_,_,q⟩=>yo pins s σ H D I q
theorem lX{ns:List Str}(c:iC X.K C)(n:b0 X.K C f)(hv:PE X (.Name x px) (mL i))(h:nv X sts (qG C i ns))(hs:swapsWith (.List [] p2) (some (.Attribute (.Name x px) f p1)) pos.line X.env=pure false:=by rfl):
  nv X (.Assign [.Attribute (.Name x px) f p1] (.List [] p2) pos::sts) (qG C i (f::ns)):=λpins s σ H D I ⟨a,dx,fs,e1,e2,e3,q⟩=>by
 refine uW (Ft hv (BA de) hs) h pins s σ H D I ?_;refine⟨zero_le _,λp hp=>⟨.ref a,e1,a,C,dx,fs,rfl,?_,c,n,?_,?_⟩⟩
 ·rw[ak (λz=>by subst z;rw[hp] at e2;cases e2)];exact e2
 ·rw[length_cons] at e3;omega
 ·refine⟨a,dx,_,e1,aF,?_,q p hp⟩;have:(iu f (.ref p) fs).length<=fs.length+1:=jG _ _ _;rw[length_cons] at e3;omega
end
theorem uV{f:Str}{v:V}:∀{ns:List Str}{xs:List V},ns.length=xs.length->f∉ns->iu f v (ns.zip xs)=(ns++[f]).zip (xs++[v])
 |[],[],_,_=>rfl
 |[],_::_,h,_=>by cases h
 |_::_,[],h,_=>by cases h
 |n::ns,x::xs,h,hn=>by
  have h1:n≠f:=λz=>hn (by rw[z];exact mem_cons_self)
  have ih:=uV (v:=v) (ns:=ns) (xs:=xs) (by simpa using h) λz=>hn (mem_cons_of_mem _ z)
  show iu f v ((n,x)::ns.zip xs)=(n,x)::(ns++[f]).zip (xs++[v]);rw[<-ih];exact if_neg h1
section
variable{C dx a:Q9}{K:List (Str×V)->Hp->Prop}
structure GM(C dx a:Q9)(H0:Hp)(ns:List Str)(ps:List Q9)(H:Hp):Prop where
 at_:H a=some (.ins C dx (ns.zip (ps.map .ref)))
 len:ns.length=ps.length
 nd:ps.Nodup
 ls:∀p∈ps,p≠a/\H0 p=none/\H p=some (.lst [])
 rest:∀b,b≠a->b∉ps->H b=H0 b
theorem nH{H0:Hp}:∀(ns:List Str){done:List Str}{ps:List Q9}{H:Hp},(done++ns).Nodup->GM C dx a H0 done ps H->(∀qs H',GM C dx a H0 (done++ns) qs H'->K ((done++ns).zip (qs.map .ref)) H')->C8 C dx a ns (done.zip (ps.map .ref)) H K
 |[],done,ps,H,nd,M,k=>by
  have:=k ps H (by rw[append_nil];exact M)
  rw[append_nil] at this;exact this
 |f::r,done,ps,H,nd,M,k=>by
  intro p hp;have hpa:p≠a:=λz=>by subst z;rw[M.at_] at hp;cases hp
  have hpp:p∉ps:=λz=>by rw[(M.ls p z).2.2] at hp;cases hp
  have hf:f∉done:=λz=>by
   have:=(List.nodup_append.mp nd).2.2 f z f mem_cons_self;exact this rfl
  rw[uV (by rw[length_map];exact M.len) hf]
  have e:(ps.map V.ref)++[.ref p]=(ps++[p]).map V.ref:=by rw[map_append];rfl
  rw[e];refine nH (H0:=H0) r (done:=done++[f]) (ps:=ps++[p]) (by rw[append_assoc];exact nd) ⟨aF,by rw[length_append,length_append,M.len];rfl,?_,λq hq=>?_,λb h1 h2=>?_⟩ λqs H' m=>?_
  ·exact List.nodup_append.mpr ⟨M.nd,by simp,λx hx y hy=>by rw[mem_singleton.mp hy];exact λz=>hpp (z▸hx)⟩
  ·rcases mem_append.mp hq with hq|hq
   ·obtain⟨z1,z2,z3⟩:=M.ls q hq;have hqp:q≠p:=λz=>hpp (by rw[<-z];exact hq)
    exact⟨z1,z2,by rw[ak z1,ak hqp];exact z3⟩
   ·rw[mem_singleton.mp hq];exact⟨hpa,by rw[<-M.rest p hpa hpp];exact hp,by rw[ak hpa,aF]⟩
  ·have hbp:b≠p:=λz=>h2 (by rw[z];simp)
   rw[ak h1,ak hbp];exact M.rest b h1 λz=>h2 (List.mem_append_left _ z)
  ·rw[append_assoc] at m ⊢;exact k qs H' m
end
def AG(qs:List Q9):List (Q9×List V):=qs.map λp=>(p,[])
theorem tK(qs:List Q9):(AG qs).map (·.1)=qs:=by unfold AG;rw[map_map];exact List.map_id' qs
def JN(C:Q9)(ns:List Str):Sp:=λvs H Q _=>∃a dx,vs=[.ref a]/\H a=some (.ins C dx [])/\∀qs H',GM C dx a H ns qs H'->Q .non (iJ (oq a (.ins C dx (ns.zip (qs.map .ref))) (AG qs)) H')
theorem Jy{P:Va}{w:Vb}{K:Frag}{mg:Str->Option Q7}{base:Vc}{x0 qual:Str}{st:Ve}{f:Q9}{fd:FuncData}{N ps ns:List Str}{k:Nat}{C:Q9}(F:wx K x0 qual st f fd)(S:aE N ps (aa st))(hp:ps.length=1)(hN:0<N.length)(hn:ns.Nodup)(hl:ns.length<900)
  (body:∀(cdv:Q7)(A:Vf)(outer:List PySem.Env)(s:Q8)(H:Hp)(E:XK),cg k (A.deeper (envOfC qual (aa st) s.heap.objs.size f cdv))->nv (jP kA P w K mg base N qual (aa st) f cdv A outer s H E).nox (ao st) (qG C 0 ns)):
  eI P w K mg base kA (k+1) f fd ps (JN C ns):=by
 refine F.ok S (λvs H Q E ⟨a,dx,ev,_⟩=>by rw[ev,hp];rfl) (λcdv A outer s H vs Q E hr ⟨a,dx,ev,e,q⟩=>⟨EH (qG C 0 ns),Bo (body cdv A outer s H E hr),?_⟩)
 subst ev;refine⟨a,dx,[],?_,e,by simpa using hl,?_⟩
 ·unfold L2.start;rfl
 ·refine nH (H0:=H) ns (done:=[]) (ps:=[]) hn ⟨e,rfl,List.nodup_nil,λ_ h=>(nomatch h),λ_ _ _=>rfl⟩ λqs H' m=>⟨a,.ins C dx (ns.zip (qs.map .ref)),AG qs,True.intro,by rw[tK];exact m.nd,λp hp=>?_,λb o z=>?_,q qs H' m⟩
  ·have:p.1∈qs:=by rw[<-tK qs];exact mem_map.mpr ⟨p,hp,rfl⟩
   exact(m.ls _ this).1
  ·rcases fU z with⟨rfl,rfl⟩|⟨_,xs,h1,rfl⟩
   ·exact m.at_
   ·have:=cD h1;unfold AG at this;obtain⟨p,hp,e'⟩:=mem_map.mp this;cases e';exact(m.ls _ hp).2.2
end L2
namespace L3
open PySem PySem.Spec PyProof.Rows L2
theorem uR{Γ:Ct}{H:Hp}:∀{ns:List Str}{qs:List Q9},ns.length=qs.length->ai Γ H (ns.map λ_=>.lst []) (qs.map .ref) (AG qs)
 |[],[],_=>by show ai Γ H [] [] [];unfold ai;exact⟨rfl,rfl⟩
 |[],_::_,h=>by cases h
 |_::_,[],h=>by cases h
 |n::ns,q::qs,h=>by
  show ai Γ H (.lst []::ns.map λ_=>.lst []) (.ref q::qs.map .ref) ((q,[])::AG qs);unfold ai;exact⟨.ref q,qs.map .ref,[(q,[])],AG qs,rfl,rfl,by unfold hU;exact⟨q,[],[],rfl,rfl,by unfold ai;exact⟨rfl,rfl⟩⟩,uR (by simpa using h)⟩
def zj(P:Va)(w:Vb)(K:Frag)(mg:Str->Option Q7)(base:Vc)(Γ:Ct)(k:Nat)(c:Vg)(x:Str)(ps ns:List Str):Prop:=
 ∃f fd,eI P w K mg base kA k f fd ps (JN (Γ.cls c) ns)/\fZ K fd ps []/\Mk K (Γ.cls c) f/\mg x=some (.ref (Γ.cls c))
def Bf(i:Nat)(c:Vg)(ns:List Str):MC:=λρ=>some (.next (ρ.set i (some (.own (.tre (.ins c ns (ns.map λ_=>.lst [])))))))
section
variable{X:Cx}{Γ:Ct}{k i:Nat}{c:Vg}{x y:Str}{ps ns:List Str}{p pos pos' spos:Pos}
theorem zM(h:zj X.prog X.w X.K X.mg X.base Γ k c x ps ns)(hr:cg (k+1) X.A)(hg:Gl X x)(hN:X.N.Nodup)(hi:X.N[i]?=some y)(hx:rO X.env.scope y)(hdb:(x == ("__debug__":Str))=false:=by decide)
  (hs:swapsWith (.Call (.Name x p) [] [] pos) (some (.Name y pos')) spos.line X.env=pure false:=by rfl) (hf:X.fn y=true\/X.env.scope.names.lookup y=some .local:=by first|exact .inl rfl|exact .inr rfl|assumption):
  ox X Γ W0 (.Assign [.Name y pos'] (.Call (.Name x p) [] [] pos) spos) (Bf i c ns):=by
 obtain⟨f,fd,G,hb,M,hm⟩:=h;refine PS.imp (sL hN hi hx (Bz (E:=E0) (dvs:=[]) (ds:=[]) M G hr hg hm hb .nil va hdb) hs hf) λpins s σ H En I ⟨B0,B1,Hs,ρ,out,re,eo,q⟩=>?_;cases eo;intro a dx ha hdx hne;refine⟨a,dx,rfl,aF,λqs H' m=>?_⟩;have hla:i<σ.length:=by rw[I.len];exact(List.getElem?_eq_some_iff.mp hi).1
 have fresh:∀b,H b≠none->b≠a/\b≠dx/\b∉qs:=λb hb=>by
  refine⟨λz=>by subst z;exact hb ha,λz=>by subst z;exact hb hdx,λz=>?_⟩
  have h1:=(m.ls b z).1;have h2:=(m.ls b z).2.1;rw[ak h1] at h2;by_cases c:b=dx
  ·subst c;rw[aF] at h2;cases h2
  ·rw[ak c] at h2;exact hb h2
 have cl0:∀b,b≠a->b∉qs->oq a (.ins (Γ.cls c) dx (ns.zip (qs.map .ref))) (AG qs) b=none:=λb h1 h2=>by
  rw[nk h1];cases z:(AG qs).lookup b with
  |none=>rfl
  |some xs=>exact(h2 (by rw[<-tK qs];exact mem_map.mpr ⟨_,cD z,rfl⟩)).elim
 have same:aj H (iJ (oq a (.ins (Γ.cls c) dx (ns.zip (qs.map .ref))) (AG qs)) H'):=λb o hb=>by
  obtain⟨h1,h2,h3⟩:=fresh b (by rw[hb];exact nofun)
  rw[ay (cl0 b h1 h3),m.rest b h1 h3,ak h1,ak h2];exact hb
 have g1:bt Hs H Hs (iJ (oq a (.ins (Γ.cls c) dx (ns.zip (qs.map .ref))) (AG qs)) H'):=.only re.b.i same;have re1:=re.grow g1;have hB:B1 a=none:=re.b.h.free ha;have hS:Hs a=none:=re.b.i.free ha;refine⟨rfl,q _ Hs _ (.refl _) (re1.setOwn (a:=a) hla hB hS (aP pI) ⟨_,_,rfl,dx,_,rfl,uR m.len⟩ λj u hj e=>?_)⟩;intro z;obtain⟨b,ho,f1,f2,f3,f4,f5⟩:=re.own j u e;rw[z] at f1;cases f1;rw[ha] at f4;cases f4
end
def G8(g:MP):MT:=λρ=>(g ρ).bind λp=>match p.1 with
 |.bl b=>some (b,p.2)
 |_=>none
def G9(g:MT):MT:=λρ=>(g ρ).map λp=>(!p.1,p.2)
section
variable{X:Cx}{Γ:Ct}{c:Vd}{g:MP}{gc:MT}{pos:Pos}
theorem Dk(h:ID X Γ c gc):ID X Γ (.UnaryOp .Not c pos) (G9 gc):=PT.imp (Bm h) λ_ _ σ H Q _ ⟨B0,B1,Hs,ρ,k,ρ',re,e,q⟩=>by
 obtain⟨p,h,e⟩:=Option.map_eq_some_iff.mp e;cases e;exact⟨B0,B1,Hs,ρ,p.1,p.2,re,h,λHs1 H1 sm1 re1=>q Hs1 H1 sm1 re1⟩
theorem Dj(h:PM X Γ c g)(he:∀whole,isTrue c X.env whole=(do let v <-whole;standAt c.pos;holding [v] (truthy v)):=by intro _;rfl):ID X Γ c (G8 g):=PT.imp (Bl h he) λ_ _ σ H Q _ ⟨B0,B1,Hs,ρ,k,ρ',re,e,q⟩=>by
 obtain⟨p,h,e⟩:=Option.bind_eq_some_iff.mp e;split at e
 ·rename_i b hb;cases e;refine⟨B0,B1,Hs,ρ,p.1,p.2,re,h,λv Hs1 H1 sm1 re1 rp1=>?_⟩;rw[hb] at rp1;exact⟨k,aw.mp rp1,q Hs1 H1 sm1 re1⟩
 ·cases e
end
def Ho(i:Nat):MC:=λρ=>x5 i ρ λds=>if 0<ds.length then some (.next (ρ.set i (some (.own (.lst ds.dropLast))))) else none
section
variable{X:Cx}{Γ:Ct}{W:XW}{i:Nat}{x:Str}{px apos cpos pos:Pos}
theorem RepL.dropLast{H:Hp}:∀{ds:List D}{xs:List V},RepL Γ H ds xs->RepL Γ H ds.dropLast xs.dropLast
 |[],_,r=>by unfold RepL at r;subst r;exact .nil
 |[d],_,r=>by
  unfold RepL at r;obtain⟨x,r',rfl,_,h⟩:=r;unfold RepL at h;subst h;exact .nil
 |d::e::ds,_,r=>by
  unfold RepL at r;obtain⟨x,r',rfl,h1,h2⟩:=r;have h3:=RepL.dropLast h2;have hl:=h2.length;cases r' with
  |nil=>cases hl
  |cons y r'=>exact .cons h1 h3
theorem Do(hv:PE X (.Name x px) (mL i))
  (hbase:attributeBase (.Name x px) "pop" X.env (eval (.Name x px) X.env)=eval (.Name x px) X.env:=by rfl)
  (hline:(apos.endLine == cpos.line)=true:=by rfl) (hsw:swapsWith (.Call (.Attribute (.Name x px) "pop" apos) [] [] cpos) none pos.line X.env=pure false:=by rfl):
  ox X Γ W (.Expr (.Call (.Attribute (.Name x px) "pop" apos) [] [] cpos) pos) (Ho i):=
 PS.imp (jV (BD PySem.F.plainAttrs_list PySem.F.slot_list_pop PySem.F.type_list_pop BV hv hbase hline) hsw) λpins s σ H En I ⟨B0,B1,Hs,ρ,o,re,eo,q⟩=>by
  obtain⟨ds,hd,eo⟩:=mS eo;obtain⟨a,ho,e1,e2,e3,e4,xs,rfl,rl⟩:=re.own i _ hd;obtain⟨hl,z⟩:=bL eo;cases z;have hx:xs.length - 1<xs.length:=by have:=rl.length;omega
  exact⟨.ref a,e1,.inl ⟨rfl,xs,.of e4⟩,a,xs,xs[xs.length - 1],rfl,rfl,e4,getElem?_eq_getElem hx,q σ Hs _ (.refl _) (re.write hd e1 ⟨_,rfl,rl.dropLast⟩)⟩
end
def dI(K:Frag):Nat->D->Q7->Bool
 |_,.int i,.int j _=>decide (i=j)
 |_,.str x,.str y _=>decide (x=y)
 |n+1,.tup ds,.ref a=>(match K.lookup a with
  |some o=>(match o.data with
   |.seq its _=>o.cls == .type "tuple" && decide (its.size<=sizeLine) && decide (ds.length=its.size) && (ds.zip its.toList).all λp=>dI K n p.1 p.2
   |_=>false)
  |none=>false)
 |_,_,_=>false
theorem rm{K:Frag}{n:Nat}(ih:∀(d:D)(u:Q7),dI K n d u=true->∃v,RelV v u/\∀(Γ:Ct)(H:Hp),Γ.K=K->bI Γ H d v):
  ∀(ds:List D)(us:List Q7),ds.length=us.length->((ds.zip us).all λp=>dI K n p.1 p.2)=true->∃vs,Vals vs us/\∀(Γ:Ct)(H:Hp),Γ.K=K->RepL Γ H ds vs
 |[],[],_,_=>⟨[],.nil,λ_ _ _=>.nil⟩
 |d::ds,u::us,hl,h=>by
  rw[zip_cons_cons,List.all_cons,Bool.and_eq_true] at h;obtain⟨v,r,rp⟩:=ih d u h.1;obtain⟨vs,rs,rps⟩:=rm ih ds us (Nat.succ.inj hl) h.2;exact⟨v::vs,.cons r rs,λΓ H e=>.cons (rp Γ H e) (rps Γ H e)⟩
theorem wc{K:Frag}:∀(n:Nat)(d:D)(u:Q7),dI K n d u=true->∃v,RelV v u/\∀(Γ:Ct)(H:Hp),Γ.K=K->bI Γ H d v:=by
 have base:∀(n:Nat)(d:D)(u:Q7),(∀ds,d≠.tup ds)->dI K n d u=true->∃v,RelV v u/\∀(Γ:Ct)(H:Hp),Γ.K=K->bI Γ H d v:=λn d u hd h=>by
  unfold dI at h;split at h
  ·cases of_decide_eq_true h;exact⟨.int _,⟨_,rfl⟩,λ_ _ _=>ah.mpr rfl⟩
  ·cases of_decide_eq_true h;exact⟨.str _,⟨_,rfl⟩,λ_ _ _=>ar.mpr rfl⟩
  ·exact(hd _ rfl).elim
  ·cases h
 intro n
 induction n with
 |zero=>
  intro d u h;by_cases z:∃ds,d=.tup ds
  ·obtain⟨ds,rfl⟩:=z;unfold dI at h;cases h
  ·exact base 0 d u (λds e=>z ⟨ds,e⟩) h
 |succ n ih=>
  intro d u h;by_cases z:∃ds,d=.tup ds
  ·obtain⟨ds,rfl⟩:=z;cases u with
   |ref a=>
    unfold dI at h;split at h
    ·rename_i o ho;split at h
     ·rename_i its m hd;rw[Bool.and_eq_true,Bool.and_eq_true,Bool.and_eq_true] at h;obtain⟨⟨⟨h1,h2⟩,h3⟩,h4⟩:=h;obtain⟨vs,rs,rps⟩:=rm ih ds its.toList (by rw[length_toList];exact of_decide_eq_true h3) h4
      exact⟨.ref a,rfl,λΓ H e=>aS.mpr ⟨a,vs,rfl,.inr ⟨o,its,m,by rw[e];exact ho,eq_of_beq h1,hd,of_decide_eq_true h2,rs⟩,rps Γ H e⟩⟩
     ·cases h
    ·cases h
   |_=>unfold dI at h;cases h
  ·exact base (n+1) d u (λds e=>z ⟨ds,e⟩) h
def GK(K:Frag)(mg:Str->Option Q7)(x:Str)(d:D):Prop:=∃u n,mg x=some u/\dI K n d u=true
theorem v8{X:Cx}{Γ:Ct}{W:XW}{x:Str}{d:D}{pos:Pos}(hK:X.K=Γ.K)(hg:Gl X x)(h:GK X.K X.mg x d)(hd:(x == ("__debug__":Str))=false:=by decide):PD X Γ W (.Name x pos) (eC d):=by
 obtain⟨u,n,hm,hc⟩:=h;obtain⟨v,r,rp⟩:=wc n d u hc;exact jW (yt hg hm r hd) λH=>rp Γ H hK.symm
end L3
namespace L2
open PySem PySem.Spec PyProof.Rows
section
variable{X:Cx}
theorem qF:∀(zs:List Str)(n:Nat),Vals (zs.map V.str) (strsFrom n zs)
 |[],_=>.nil
 |z::zs,n=>.cons ⟨_,rfl⟩ (qF zs (n+1))
theorem BU:GL X "str.split" (λx vs H Q=>∃z y,x=.str z/\vs=[.str y]/\(y.length == 0)=false/\z.length<=sizeLine/\(Txt.split z y).length<=sizeLine/\∀p,H p=none->Q (.ref p) (bW H p (.lst ((Txt.split z y).map V.str)))):=by
 intro pins s σ H x xs v us Q I rx rs ⟨z,y,ex,es,hy,hz,hl,q⟩;subst ex es;obtain⟨t,rfl⟩:=rx;obtain⟨u,rfl,⟨t',rfl⟩⟩:=fK rs;have ty:s.TypeIs (.str z t) "str" := rfl;by_cases c1:(decide (z.length<y.length) || decide (Builtin.Str.strKind z<Builtin.Str.strKind y))=true
 ·have e:Txt.split z y=[z]:=by unfold Txt.split;rw[if_pos c1]
  rw[e] at q;exact call_meets F.slot_str_split ty F.entry_str_split (F.args_str_split_2 _ _) (meets_str_split_cannot_occur z y t t' c1) ⟨.ref _,_,I.lnew (ys:=[.str z]) (its:=[.str z t]) (t':=s.toks) (.cons ⟨t,rfl⟩ .nil) (by show 1<=sizeLine;decide),rfl,q _ I.fresh⟩
 ·have c1':=Bool.not_eq_true _▸c1;by_cases c2:(Builtin.Str.occurrences z y 0 z.length (z.length+1)).isEmpty=true
  ·have e:Txt.split z y=[z]:=by unfold Txt.split;rw[if_neg c1,if_pos c2]
   rw[e] at q;exact call_meets F.slot_str_split ty F.entry_str_split (F.args_str_split_2 _ _) (meets_str_split_not_found z y t t' c1' hy c2) ⟨.ref _,_,I.lnew (ys:=[.str z]) (its:=[.str z t]) (t':=s.toks) (.cons ⟨t,rfl⟩ .nil) (by show 1<=sizeLine;decide),rfl,q _ I.fresh⟩
  ·have c2':=Bool.not_eq_true _▸c2;have e:Txt.split z y=Builtin.Str.partsBetween z (Builtin.Str.occurrences z y 0 z.length (z.length+1)) y.length:=by unfold Txt.split;rw[if_neg c1,if_neg c2]
   rw[e] at q hl;exact call_meets F.slot_str_split ty F.entry_str_split (F.args_str_split_2 _ _) (meets_str_split_sep z y t t' c1' hy c2' hz hl) ⟨.ref _,_,I.lnew (qF _ s.toks) (by rw[length_map];exact hl),rfl,q _ I.fresh⟩
def EZ(y:Str):Q7->Bool
 |.str a _=>decide (a=y)
 |_=>false
theorem BW:GL X "list.index" (λx vs H Q=>∃(a:Q9)(zs:List Str)(y:Str)(j:Nat),x=.ref a/\vs=[.str y]/\fJ X.K H a (zs.map V.str)/\zs[j]?=some y/\(∀m,m<j->zs[m]?≠some y)/\Q (.int (j:Nat)) H):=by
 intro pins s σ H x xs v us Q I rx rs ⟨a,zs,y,j,ex,es,sq,hj,hn,q⟩;subst ex es;cases rx;obtain⟨u,rfl,⟨t',rfl⟩⟩:=fK rs;obtain⟨its,rv,pl,hz⟩:=I.list sq;obtain⟨l,rfl,el⟩:=mK rv;have hlen:l.length=zs.length:=by rw[<-el,length_map]
 have hjl:j<l.length:=by rw[hlen];exact(List.getElem?_eq_some_iff.mp hj).1
 rw[length_map] at hz;have at_:∀m (hm:m<(strValues l).toArray.size),EZ y (strValues l).toArray[m]=decide (zs[m]?=some y):=λm hm=>by
  have hm':m<l.length:=by simpa [strValues] using hm
  have e1:zs[m]?=some l[m].1:=by rw[<-el,getElem?_map,getElem?_eq_getElem hm'];rfl
  have e2:(strValues l).toArray[m]=Value.str l[m].1 l[m].2:=by simp[strValues]
  rw[e1,e2];show decide (l[m].1=y)=_;by_cases c:l[m].1=y
  ·rw[decide_eq_true c,decide_eq_true (by rw[c])]
  ·rw[decide_eq_false c,decide_eq_false (λz=>c (Option.some.inj z))]
 obtain⟨o,ho,hcl,n,hd⟩:=pl.isList;obtain⟨c0,d0,dat,sl⟩:=o;cases hcl;cases hd;have hjs:j<(strValues l).toArray.size:=by simpa [strValues] using hjl
 refine call_meets F.slot_list_index ⟨_,ho,rfl⟩ F.entry_list_index (F.args_list_index_2 _ _) (SeqAt.list_indexAt a (strValues l).toArray n d0 sl (.str y t') (EZ y) j hjs (by have:=sizeLine_eq;omega) (by rw[at_,hj];exact decide_eq_true rfl) λm hm hlt=>by rw[at_];exact decide_eq_false (hn m hlt)) ⟨ho,λv hv=>?_,.int _,H,I.tok _,⟨_,rfl⟩,q⟩
 obtain⟨p,_,rfl⟩:∃p,p∈l/\Value.str p.1 p.2=v:=by simpa [strValues] using hv
 exact λ_ _ _ _ q=>wpAny_eqBool_str q
end
end L2
namespace L3
open PySem PySem.Spec PyProof.Rows L2
def lH(x y:D):Option R:=match x,y with
 |.str z,.str w=>if(w.length == 0)=false/\z.length<=lim/\(Txt.split z w).length<=lim then some (.ok (.own (.lst ((Txt.split z w).map D.str)))) else none
 |_,_=>none
theorem vZ{x y:D}{r:R}(h:lH x y=some r):∃z w,x=.str z/\y=.str w/\(w.length == 0)=false/\z.length<=lim/\(Txt.split z w).length<=lim/\r=.ok (.own (.lst ((Txt.split z w).map D.str))):=by
 unfold lH at h;split at h
 ·obtain⟨⟨h1,h2,h3⟩,e⟩:=bL h;exact⟨_,_,rfl,rfl,h1,h2,h3,e.symm⟩
 ·cases h
theorem nD{Γ:Ct}{H:Hp}:∀(zs:List Str),RepL Γ H (zs.map D.str) (zs.map V.str)
 |[]=>.nil
 |_::zs=>.cons (ar.mpr rfl) (nD zs)
def pG(x y:D):Option R:=match x,y with
 |.lst ds,.str w=>(gg ds).bind λzs=>(zs.idxOf? w).bind λj=>okI (j:Nat)
 |_,_=>none
section
variable{X:Cx}{Γ:Ct}{W:XW}{o e:Vd}{go ge:ME}{apos cpos:Pos}
theorem BE(ho:PD X Γ W o go)(he:PD X Γ W e ge)(hbase:attributeBase o "split" X.env (eval o X.env)=eval o X.env:=by rfl)
  (hfew:((backTo cpos (starEach [e] X.env)).all (λx=>!x.1) && (backToKw cpos (keywordEach [] X.env)).all (λx=>x.1.isSome) && decide ([e].length+([]:List Keyword).length+(if([]:List Keyword).isEmpty then 0 else 1)<30))=true:=by rfl)
  (hline:(apos.endLine == cpos.line)=true:=by rfl) (hs:starEach [e] X.env=(false,eval e X.env)::starEach [] X.env:=by rfl) (hplain:(backTo cpos (starEach [] X.env)).any (·.1)=false:=by rfl):
  PD X Γ W (.Call (.Attribute o "split" apos) [e] [] cpos) (dB lH go ge):=
 sM PySem.F.slot_str_split PySem.F.type_str_split BU ho he (λsm r1 r2 h q=>by
  obtain⟨a,b,rfl,rfl,h1,h2,h3,rfl⟩:=vZ h;refine⟨a,b,ar.mp r1,by rw[ar.mp r2],h1,jF h2,jF h3,λp hp=>?_⟩
  exact q _ _ _ (.only sm (bJ hp)) ⟨p,_,rfl,hp,sm.free hp,aF,_,rfl,nD _⟩) hbase hfew hline hs hplain
theorem w5{x y:D}{r:R}(h:pG x y=some r):∃(zs:List Str)(w:Str)(j:Nat),x=.lst (zs.map D.str)/\y=.str w/\zs[j]?=some w/\(∀m,m<j->zs[m]?≠some w)/\r=.ok (.sh (.int ((j:Nat):Int))):=by
 unfold pG at h;split at h
 ·rename_i ds w;obtain⟨zs,e1,h⟩:=Option.bind_eq_some_iff.mp h;obtain⟨j,e2,h⟩:=Option.bind_eq_some_iff.mp h;cases h;obtain⟨hj,h1,h2⟩:=List.idxOf?_eq_some_iff.mp e2;refine⟨zs,w,j,by rw[kQ e1],rfl,by rw[getElem?_eq_getElem hj];exact congrArg some h1,λm hm z=>?_,rfl⟩
  have hml:m<zs.length:=Nat.lt_trans hm hj;rw[getElem?_eq_getElem hml] at z;have:=h2 m hm;rw[Option.some.inj z] at this;simp at this
 ·cases h
def F0(f:D->D->Option R)(go ge:ME):ME:=λρ=>aQ (go ρ) λx=>match x with
 |.lst ds=>aQ (ge ρ) λy=>f (.lst ds) y
 |_=>none
theorem BG(hK:X.K=Γ.K)(ho:PD X Γ W o go)(he:PD X Γ W e ge)(hbase:attributeBase o "index" X.env (eval o X.env)=eval o X.env:=by rfl)
  (hfew:((backTo cpos (starEach [e] X.env)).all (λx=>!x.1) && (backToKw cpos (keywordEach [] X.env)).all (λx=>x.1.isSome) && decide ([e].length+([]:List Keyword).length+(if([]:List Keyword).isEmpty then 0 else 1)<30))=true:=by rfl)
  (hline:(apos.endLine == cpos.line)=true:=by rfl) (hs:starEach [e] X.env=(false,eval e X.env)::starEach [] X.env:=by rfl) (hplain:(backTo cpos (starEach [] X.env)).any (·.1)=false:=by rfl):
  PD X Γ W (.Call (.Attribute o "index" apos) [e] [] cpos) (F0 pG go ge):=
 PE.imp (qT PySem.F.plainAttrs_list PySem.F.slot_list_index PySem.F.type_list_index BW ho (bH he de hs) hbase hfew hline hs hplain) λ_ _ σ H Q _ ⟨B0,B1,Hs,ρ,r,re,e,q⟩=>by
  refine(bu re e q).mono λv H1 ⟨Hs1,d,g1,re1,rp,e1,q1⟩=>?_;split at e1
  ·rename_i ds;obtain⟨p,xs,rfl,sq,rl⟩:=aH.mp rp;refine⟨.inl ⟨rfl,xs,by rw[hK];exact aj.seq re1.b.i sq⟩,(bu re1 e1 q1).mono λy H2 ⟨Hs2,d2,g2,re2,rp2,e2,q2⟩=>?_⟩
   obtain⟨zs,w,j,ez,rfl,h1,h2,rfl⟩:=w5 e2;cases ez;rw[mR rl] at sq;exact⟨p,zs,w,j,rfl,by rw[ar.mp rp2],by rw[hK];exact aj.seq re2.b.i (aj.seq g2.s sq),h1,h2,cV re2.b.i q2 (ah.mpr rfl)⟩
  ·cases e1
end
def scal:D->Bool
 |.non=>true
 |.bl _=>true
 |.int _=>true
 |.str _=>true
 |_=>false
theorem lW{Γ:Ct}{H H':Hp}{d:D}{v:V}(h:scal d=true)(r:bI Γ H d v):bI Γ H' d v:=by
 cases d with
 |non=>exact bw.mpr (bw.mp r)
 |bl _=>exact aw.mpr (aw.mp r)
 |int _=>exact ah.mpr (ah.mp r)
 |str _=>exact ar.mpr (ar.mp r)
 |_=>cases h
def jK(i jy m:Nat)(tv:D)(ge:ME):List D->aA->Option kh
 |[],ρ=>some (.next ρ)
 |d::ds,ρ=>match ge ((ρ.set jy (some (.sh d))).set i (some (.sh tv))) with
  |some (.ok (.sh v))=>if scal d=true/\scal v=true then jK i jy m tv ge ds ((ρ.set jy (some (.sh d))).set m (some (.sh v))) else none
  |_=>none
def sE(i jy m:Nat)(gi:MI)(ge:ME):MC:=λρ=>(f9 i ρ).bind λp=>match gi (ρ.set i (some (.sh p.2.val))) with
 |some (.ok ds)=>jK i jy m p.2.val ge ds ρ
 |_=>none
inductive zl(Γ:Ct)(i jy m:Nat)(tv:D)(ge:ME)(a:Q9)(o:O)(out:kh)(ds:List D)(B0 B1 Hs H Hs1 Ms M:Hp)(k:Nat)(σ2:L2.St)(H2:Hp):Prop
 |mk (Hs2:Hp) (ρ2:aA) (sm:aj Hs1 Hs2) (g:bt Ms M Hs2 H2) (re:RE Γ B0 B1 Hs H σ2 ρ2) (hd:ρ2[i]?=some (some (.own o))) (ea:σ2[i]?=some (some (.ref a))) (e:jK i jy m tv ge (ds.drop k) ρ2=some out)
section
variable{X:Cx}{Γ:Ct}{i jy m:Nat}{x y:Str}{e iter:Vd}{ge:ME}{gi:MI}{yp xp apos pos:Pos}
theorem zN(htb:∀b o,Γ.tb b=some o->∃g,o=.tab g)(hij:jy≠i)(him:m≠i)(hN:X.N.Nodup)(hjy:X.N[jy]?=some y)(hm:X.N[m]?=some x)(hp:PassesOwn (model X.prog X.w) X.A X.env X.xe)(hc:X.calm=true)(hi:AC X Γ W0 (.Name y yp) iter gi)(he:PD X Γ W0 e ge)
  (hly:rO X.env.scope y:=by first|exact Or.inl rfl|exact Or.inr rfl) (hlx:rO X.env.scope x:=by first|exact Or.inl rfl|exact Or.inr rfl)
  (hs:swapsWith e (some (.Name x xp)) apos.line X.env=pure false:=by rfl) (hs2:∀z,foldedSetIterable iter X.env z=pure z:=by intro _;rfl)
  (hfy:X.fn y=true\/X.env.scope.names.lookup y=some .local:=by first|exact .inl rfl|exact .inr rfl|assumption) (hfx:X.fn x=true\/X.env.scope.names.lookup x=some .local:=by first|exact .inl rfl|exact .inr rfl|assumption):
  ox X Γ W0 (.For (.Name y yp) iter [.Assign [.Name x xp] e apos] [] pos) (sE i jy m gi ge):=
 PS.imp (lZ (wX hp hc hi (ia hN hjy hly hfy) (sJ (sL hN hm hlx he hs hfx)) hs2)) λpins s σ H En I ⟨B0,B1,Hs,ρ,out,re,eo,q⟩=>by
  obtain⟨⟨o,t⟩,h1,eo⟩:=Option.bind_eq_some_iff.mp eo;obtain⟨hd,hcr⟩:=dQ h1;obtain⟨a,ho,f1,f2,f3,f4,f5⟩:=re.own i o hd;have f6:=f5.core;rw[hcr] at f6;obtain⟨u,T,rfl,rt⟩:=f6;obtain⟨_,nd,f⟩:=(show bM X.prog X.w H s.heap a (.big u T) from I.hok a _ f4);have ha:∀p∈T,p.1≠a:=λp hp=>(f p hp).1;have hT:∀p∈T,H p.1=some (.own a):=λp hp=>(f p hp).2.1;have hml:m<σ.length:=by rw[I.len];exact(List.getElem?_eq_some_iff.mp hm).1
  have hyl:jy<σ.length:=by rw[I.len];exact(List.getElem?_eq_some_iff.mp hjy).1
  dsimp only at eo;split at eo
  ·rename_i ds hgi;refine⟨a,u,T,f4,rt.root,_,_,_,_,.ok ds,oa re hd f1 f3 f4 rt nd ha hT htb,hgi,?_⟩;intro J Hs1 H1 g1 w;refine⟨λk mm σ2 H2=>(mm=ds.length - k/\k<=ds.length/\σ2.length=σ.length)/\zl Γ i jy m t.val ge a o out ds B0 B1 Hs H Hs1 (iJ (bj a u T) Hs) (iJ (bj a u T) H) k σ2 H2,⟨_,⟨rfl,zero_le _,rfl⟩,Hs1,ρ,.refl _,g1,re,hd,f1,eo⟩,?_⟩
   rintro k mm σ2 H2 ⟨⟨rfl,hk,hl⟩,Hs2,ρ2,sm2,g2,re2,hd2,ea2,ef⟩
   by_cases hlt:k<ds.length
   ·refine .inr ⟨w.go k Hs2 H2 hlt sm2 g2.i,λσ' H'=>σ'.length=σ.length/\zl Γ i jy m t.val ge a o out ds B0 B1 Hs H Hs1 (iJ (bj a u T) Hs) (iJ (bj a u T) H) (k+1) σ' H',λσ' H' z=>⟨_,by omega,⟨rfl,hlt,z.1⟩,z.2⟩,λxv H3 yy=>?_⟩
    obtain⟨d,Hs3,ed,g3,rp⟩:=w.yld k Hs2 H2 xv H3 hlt sm2 g2.i yy;have hdr:ds.drop k=d::ds.drop (k+1):=by
     rw[List.drop_eq_getElem_cons hlt];congr 1;rw[getElem?_eq_getElem hlt] at ed;exact Option.some.inj ed
    rw[hdr] at ef;unfold jK at ef;split at ef
    ·rename_i v hv;have z:scal d=true/\scal v=true:=Classical.byContradiction λz=>by rw[if_neg z] at ef;cases ef
     rw[if_pos z] at ef;obtain⟨s1,s2⟩:=z;have re3:=re2.setSh (by rw[hl];exact hyl) (lW (H':=Hs) s1 rp)
     have hd3:(ρ2.set jy (some (.sh d)))[i]?=some (some (.own o)):=by rw[getElem?_set_ne hij];exact hd2
     have ea3:(σ2.set jy (some xv))[i]?=some (some (.ref a)):=by rw[getElem?_set_ne hij];exact ea2
     have g23:=g2.trans g3;refine⟨_,_,Hs3,_,_,(oa re3 hd3 ea3 f3 f4 rt nd ha hT htb).grow g23,hv,λxw Hs4 H4 g4 rs=>?_⟩;exact⟨by rw[length_set,length_set,hl],Hs4,_,(sm2.trans g3.s).trans g4.s,g23.trans g4,re3.setSh (by rw[length_set,hl];exact hml) (lW (H':=Hs) s2 rs),by rw[getElem?_set_ne him];exact hd3,by rw[getElem?_set_ne him];exact ea3,ef⟩
    ·cases ef
   ·obtain rfl:k=ds.length:=by omega
    rw[drop_length] at ef;cases ef;exact .inl ⟨w.stop Hs2 H2 sm2 g2.i,u,T,rt.root,nd,ha,λb o z=>g2.h b o (aP z),q _ _ _ (iN re.b.i f4 hT g2).s (re2.grow (iN re.b.i f4 hT g2))⟩
  ·cases eo
end
section
variable{P:Va}{w:Vb}{K:Frag}{mg:Str->Option Q7}{base:Vc}{Γ:Ct}
theorem xD{x qual:Str}{c:Vg}{st:Ve}{N ps ns:List Str}{k:Nat}(L:zi K mg Γ.cls c x qual st ps)(S:aE N ps (aa st))(hp:ps.length=1)(hN:0<N.length)(hn:ns.Nodup)(hl:ns.length<900)
  (body:∀(f:Q9)(cdv:Q7)(A:Vf)(outer:List PySem.Env)(s:Q8)(H:Hp)(E:XK),cg k (A.deeper (envOfC qual (aa st) s.heap.objs.size f cdv))->nv (jP kA P w K mg base N qual (aa st) f cdv A outer s H E).nox (ao st) (qG (Γ.cls c) 0 ns)):
  zj P w K mg base Γ (k+1) c x ps ns:=by
 obtain⟨f,fd,F,hb,hm,_⟩:=L.ex;exact⟨f,fd,Jy F S hp hN hn hl (body f),hb,hm,L.at_⟩
end
end L3
namespace L2
open PySem PySem.Spec PyProof.Rows
abbrev pV(h:Vc)(T:Q9)(a b c:Q7):Prop:=h.get? T=some {cls:=.type "tuple",data:=.seq #[a,b,c]}
structure ub(z TI TO i1 i2 i3 l1 l2 l3:Q9):Prop where
 TIz:TI≠z
 TOz:TO≠z
 i1z:i1≠z
 i2z:i2≠z
 i3z:i3≠z
 TITO:TI≠TO
 TIi1:TI≠i1
 TIi2:TI≠i2
 TIi3:TI≠i3
 TOi1:TO≠i1
 TOi2:TO≠i2
 TOi3:TO≠i3
 i12:i1≠i2
 i13:i1≠i3
 i23:i2≠i3
 l1:l1∉[z,TO,i1,i2,i3]
 l2:l2∉[z,TO,i1,i2,i3]
 l3:l3∉[z,TO,i1,i2,i3]
section
variable{prog:Va}{w:Vb}{A:Vf}{E:Q7->Q8->Prop}{s:Q8}
theorem fL{T:Q9}{a b c x:Q7}{k:Nat}{Q:Unit->Q8->Prop}(hT:pV s.heap T a b c)
  (h:∀h',h'.get? T=some {cls:=.type "tuple",data:=.seq (#[a,b,c].setIfInBounds k x)}->Heap.SameBut T s.heap h'->Q () {s with heap:=h'}):wpAny (model prog w) A (updateSeq T λv=>v.setIfInBounds k x) Q E s:=
 wpAny_updateSeq hT rfl (h _ (by rw[Heap.get?_update_self _ hT rfl];simp[Obj.mapSeq]) (Heap.SameBut.update ..)) (by simp[sizeLine_eq]) (by simp[sizeLine_eq])
variable{z TI TO i1 i2 i3 l1 l2 l3:Q9}{k:Nat}{st1 st2 st3:Nat->Vc->Prop}{v1 v2 v3:Nat->Option Q7}{a b c:Q7}
theorem zo{x y u:Q7}{Q:Q7->Q8->Prop}(N1:Nx prog w A i1 l1 st1 v1)(N2:Nx prog w A i2 l2 st2 v2)(N3:Nx prog w A i3 l3 st3 v3)(D:ub z TI TO i1 i2 i3 l1 l2 l3)(hz:IsZip s.heap z TI TO .none)(hTI:pV s.heap TI (.ref i1) (.ref i2) (.ref i3))(hTO:pV s.heap TO a b c)
  (h1:st1 k s.heap) (h2:st2 k s.heap) (h3:st3 k s.heap) (hx:v1 k=some x) (hy:v2 k=some y) (hu:v3 k=some u)
  (hQ:∀h',IsZip h' z TI TO (rawInt s.heap.objs.size)->pV h' TO x y u->st1 (k+1) h'->st2 (k+1) h'->st3 (k+1) h'->pV h' s.heap.objs.size x y u->h'.objs.size=s.heap.objs.size+1->
   (∀c o,c∉[z,TO,i1,i2,i3]->s.heap.get? c=some o->h'.get? c=some o)->Q (.ref s.heap.objs.size) {s with heap:=h'}):
  wpAny (model prog w) A (Builtin.«zip.__next__» ⟨[.ref z],[]⟩) (λfin s'=>∃v,fin=.done (.ret v)/\Q v s') E s:=by
 show wpAny _ _ (field (.ref z) 2 >>= _) _ _ _;refine wpAny_bind (wpAny_field hz rfl (x:=.bool false) rfl ?_);show wpAny _ _ (field (.ref z) 3 >>= _) _ _ _;refine wpAny_bind (wpAny_field hz rfl (x:=.ref TI) rfl ?_);refine wpAny_bind (wpAny_seqItems hTI rfl ?_);show wpAny _ _ (Builtin.SmallTypes.ownedTupleIsFree (.ref z) >>= _) _ _ _;refine wpAny_bind ?_;unfold Builtin.SmallTypes.ownedTupleIsFree;refine wpAny_bind (wpAny_field hz rfl (x:=.none) rfl (wpAny_pure ?_));simp only[if_true];refine wpAny_bind (wpAny_rule ?_);refine wpAny_bind (wpAny_field hz rfl (x:=.ref TO) rfl ?_);refine wpAny_bind (wpAny_setField_rec hz (by simp) λg1 z1 e1=>?_);replace z1:IsZip g1 z TI TO .ellipsis:=z1
 refine wpAny_bind ?_;simp only[zipIdx_cons,zipIdx_nil,forIn_cons,forIn_nil];have L1:l1≠z/\l1≠TO/\l1≠i1/\l1≠i2/\l1≠i3:=by simpa using D.l1
 have L2:l2≠z/\l2≠TO/\l2≠i1/\l2≠i2/\l2≠i3:=by simpa using D.l2
 have L3:l3≠z/\l3≠TO/\l3≠i1/\l3≠i2/\l3≠i3:=by simpa using D.l3
 have j1:st1 k g1:=N1.ext k _ _ h1 λc hc o q=>by rcases hc with rfl|rfl;exact e1.extBut _ _ D.i1z q;exact e1.extBut _ _ L1.1 q
 refine wpAny_bind (wpAny_bind (wpAny_onRaise ?_));show wpAny _ _ (Builtin.SmallTypes.nextOf (.ref i1) >>= _) _ _ _;refine wpAny_bind (N1.item _ k x _ _ j1 hx λg2 j1' e2=>wpAny_pure ?_);have t2:pV g2 TO a b c:=e2.extBut _ _ D.TOi1 (e1.extBut _ _ D.TOz hTO);refine wpAny_bind (wpAny_seqItems t2 rfl ?_);refine wpAny_bind (fL t2 λg3 t3 e3=>?_);replace t3:pV g3 TO x b c:=t3;refine wpAny_bind (wpAny_letGo (wpAny_pure ?_));have k3:∀c o,c≠z->c≠TO->c≠i1->s.heap.get? c=some o->g3.get? c=some o:=λc o c1 c2 c3 q=>e3.extBut _ _ c2 (e2.extBut _ _ c3 (e1.extBut _ _ c1 q));have j2:st2 k g3:=N2.ext k _ _ h2 λc hc o q=>by
  rcases hc with rfl|rfl
  ·exact k3 _ _ D.i2z D.TOi2.symm D.i12.symm q
  ·exact k3 _ _ L2.1 L2.2.1 L2.2.2.1 q
 refine wpAny_bind (wpAny_bind (wpAny_onRaise ?_));show wpAny _ _ (Builtin.SmallTypes.nextOf (.ref i2) >>= _) _ _ _;refine wpAny_bind (N2.item _ k y _ _ j2 hy λg4 j2' e4=>wpAny_pure ?_);have t4:pV g4 TO x b c:=e4.extBut _ _ D.TOi2 t3;refine wpAny_bind (wpAny_seqItems t4 rfl ?_);refine wpAny_bind (fL t4 λg5 t5 e5=>?_);replace t5:pV g5 TO x y c:=t5;refine wpAny_bind (wpAny_letGo (wpAny_pure ?_));have k5:∀c o,c≠z->c≠TO->c≠i1->c≠i2->s.heap.get? c=some o->g5.get? c=some o:=λc o c1 c2 c3 c4 q=>e5.extBut _ _ c2 (e4.extBut _ _ c4 (k3 c o c1 c2 c3 q));have j3:st3 k g5:=N3.ext k _ _ h3 λc hc o q=>by
  rcases hc with rfl|rfl
  ·exact k5 _ _ D.i3z D.TOi3.symm D.i13.symm D.i23.symm q
  ·exact k5 _ _ L3.1 L3.2.1 L3.2.2.1 L3.2.2.2.1 q
 refine wpAny_bind (wpAny_bind (wpAny_onRaise ?_));show wpAny _ _ (Builtin.SmallTypes.nextOf (.ref i3) >>= _) _ _ _;refine wpAny_bind (N3.item _ k u _ _ j3 hu λg6 j3' e6=>wpAny_pure ?_);have t6:pV g6 TO x y c:=e6.extBut _ _ D.TOi3 t5;refine wpAny_bind (wpAny_seqItems t6 rfl ?_);refine wpAny_bind (fL t6 λg7 t7 e7=>?_);replace t7:pV g7 TO x y u:=t7;refine wpAny_bind (wpAny_letGo (wpAny_pure (wpAny_pure ?_)));refine wpAny_bind (wpAny_seqItems t7 rfl ?_);refine wpAny_bind (wpAny_newTuple ?_);have sz:g7.objs.size=s.heap.objs.size:=by rw[e7.1,e6.1,e5.1,e4.1,e3.1,e2.1,e1.1]
 have z7:IsZip g7 z TI TO .ellipsis:=e7.extBut _ _ D.TOz.symm (e6.extBut _ _ D.i3z.symm (e5.extBut _ _ D.TOz.symm (e4.extBut _ _ D.i2z.symm (e3.extBut _ _ D.TOz.symm (e2.extBut _ _ D.i1z.symm z1)))));have k7:∀c o,c∉[z,TO,i1,i2,i3]->s.heap.get? c=some o->g7.get? c=some o:=λc o hc q=>by
  have C:c≠z/\c≠TO/\c≠i1/\c≠i2/\c≠i3:=by simpa using hc
  exact e7.extBut _ _ C.2.1 (e6.extBut _ _ C.2.2.2.2 (k5 c o C.1 C.2.1 C.2.2.1 C.2.2.2.1 q))
 have zlt:z<g7.objs.size:=lt_size z7;show wpAny _ _ (Builtin.SmallTypes.ownedTupleHandOut (.ref z) (.ref g7.objs.size) >>= _) _ _ _;refine wpAny_bind ?_;unfold Builtin.SmallTypes.ownedTupleHandOut;have z8:IsZip (g7.push {cls:=.type "tuple",data:=.seq #[x,y,u]}) z TI TO .ellipsis:=get?_push_of_some _ z7;refine wpAny_bind (wpAny_setField_rec z8 (by simp) λg9 z9 e9=>?_);replace z9:IsZip g9 z TI TO (rawInt g7.objs.size):=z9
 refine wpAny_setField_rec z9 (by simp) λf1 y1 d1=>?_;replace y1:IsZip f1 z TI TO (rawInt g7.objs.size):=y1
 have up:∀c o,c≠z->g7.get? c=some o->f1.get? c=some o:=λc o c1 q=>d1.extBut _ _ c1 (e9.extBut _ _ c1 (get?_push_of_some _ q));have t8:pV f1 g7.objs.size x y u:=d1.extBut _ _ (ne_of_gt zlt) (e9.extBut _ _ (ne_of_gt zlt) (get?_push_size _ rfl));have s8:f1.objs.size=g7.objs.size+1:=by rw[d1.1,e9.1,size_push]
 have m1:st1 (k+1) f1:=N1.ext _ _ _ j1' λc hc o q=>by
  rcases hc with rfl|rfl
  ·exact up _ _ D.i1z (e7.extBut _ _ D.TOi1.symm (e6.extBut _ _ D.i13 (e5.extBut _ _ D.TOi1.symm (e4.extBut _ _ D.i12 (e3.extBut _ _ D.TOi1.symm q)))))
  ·exact up _ _ L1.1 (e7.extBut _ _ L1.2.1 (e6.extBut _ _ L1.2.2.2.2 (e5.extBut _ _ L1.2.1 (e4.extBut _ _ L1.2.2.2.1 (e3.extBut _ _ L1.2.1 q)))))
 have m2:st2 (k+1) f1:=N2.ext _ _ _ j2' λc hc o q=>by
  rcases hc with rfl|rfl
  ·exact up _ _ D.i2z (e7.extBut _ _ D.TOi2.symm (e6.extBut _ _ D.i23 (e5.extBut _ _ D.TOi2.symm q)))
  ·exact up _ _ L2.1 (e7.extBut _ _ L2.2.1 (e6.extBut _ _ L2.2.2.2.2 (e5.extBut _ _ L2.2.1 q)))
 have m3:st3 (k+1) f1:=N3.ext _ _ _ j3' λc hc o q=>by
  rcases hc with rfl|rfl
  ·exact up _ _ D.i3z (e7.extBut _ _ D.TOi3.symm q)
  ·exact up _ _ L3.1 (e7.extBut _ _ L3.2.1 q)
 rw[sz] at y1 t8 s8;refine wpAny_pure ⟨_,rfl,?_⟩;show Q (.ref g7.objs.size) _;rw[sz];exact hQ f1 y1 (up _ _ D.TOz t7) m1 m2 m3 t8 s8 λc o hc q=>up c o (λe=>hc (by rw[e];simp)) (k7 c o hc q)
theorem zip3_end{Q:Fin->Q8->Prop}(N1:Nx prog w A i1 l1 st1 v1)(N2:Nx prog w A i2 l2 st2 v2)(N3:Nx prog w A i3 l3 st3 v3)(D:ub z TI TO i1 i2 i3 l1 l2 l3)(hz:IsZip s.heap z TI TO .none)(hTI:pV s.heap TI (.ref i1) (.ref i2) (.ref i3))(hTO:pV s.heap TO a b c)
  (h1:st1 k s.heap) (h2:st2 k s.heap) (h3:st3 k s.heap) (hend:v1 k=none\/v2 k=none\/v3 k=none)
  (hE:∀h' e,(∀c o,c∉[z,TO,i1,i2,i3]->s.heap.get? c=some o->h'.get? c=some o)->(∃o,h'.get? e=some o/\o.cls=.type "StopIteration")->E (.ref e) {s with heap:=h'}):
  wpAny (model prog w) A (Builtin.«zip.__next__» ⟨[.ref z],[]⟩) Q E s:=by
 show wpAny _ _ (field (.ref z) 2 >>= _) _ _ _;refine wpAny_bind (wpAny_field hz rfl (x:=.bool false) rfl ?_);show wpAny _ _ (field (.ref z) 3 >>= _) _ _ _;refine wpAny_bind (wpAny_field hz rfl (x:=.ref TI) rfl ?_);refine wpAny_bind (wpAny_seqItems hTI rfl ?_);show wpAny _ _ (Builtin.SmallTypes.ownedTupleIsFree (.ref z) >>= _) _ _ _;refine wpAny_bind ?_;unfold Builtin.SmallTypes.ownedTupleIsFree;refine wpAny_bind (wpAny_field hz rfl (x:=.none) rfl (wpAny_pure ?_));simp only[if_true];refine wpAny_bind (wpAny_rule ?_);refine wpAny_bind (wpAny_field hz rfl (x:=.ref TO) rfl ?_);refine wpAny_bind (wpAny_setField_rec hz (by simp) λg1 z1 e1=>?_);replace z1:IsZip g1 z TI TO .ellipsis:=z1
 refine wpAny_bind ?_;simp only[zipIdx_cons,zipIdx_nil,forIn_cons,forIn_nil];have L1:l1≠z/\l1≠TO/\l1≠i1/\l1≠i2/\l1≠i3:=by simpa using D.l1
 have L2:l2≠z/\l2≠TO/\l2≠i1/\l2≠i2/\l2≠i3:=by simpa using D.l2
 have L3:l3≠z/\l3≠TO/\l3≠i1/\l3≠i2/\l3≠i3:=by simpa using D.l3
 have j1:st1 k g1:=N1.ext k _ _ h1 λc hc o q=>by rcases hc with rfl|rfl;exact e1.extBut _ _ D.i1z q;exact e1.extBut _ _ L1.1 q
 have fin:∀(g2:Vc)(e:Q9),IsZip g2 z TI TO .ellipsis->(∀c o,c∉[z,TO,i1,i2,i3]->s.heap.get? c=some o->g2.get? c=some o)->(∃o,g2.get? e=some o/\o.cls=.type "StopIteration")->
   wpAny (model prog w) A (setField (.ref z) 0 .none) (λ_ s'=>E (.ref e) s') E {s with heap:=g2}:=λg2 e z2 kp he=>by
  obtain⟨oe,hoe,hce⟩:=he;have hez:e≠z:=λx=>by subst x;rw[z2] at hoe;cases hoe;simp at hce
  exact wpAny_setField_rec z2 (by simp) λg3 _ e3=>hE g3 e (λc o hc q=>e3.extBut _ _ (λe=>hc (by rw[e];simp)) (kp c o hc q)) ⟨oe,e3.extBut _ _ hez hoe,hce⟩
 refine wpAny_bind (wpAny_bind (wpAny_onRaise ?_));show wpAny _ _ (Builtin.SmallTypes.nextOf (.ref i1) >>= _) _ _ _;cases hx:v1 k with
 |none=>
  exact wpAny_bind (N1.stop _ k _ _ j1 hx λg2 e e2 he=>fin g2 e (e2 _ _ D.i1z.symm z1) (λc o hc q=>by
   have C:c≠z/\c≠TO/\c≠i1/\c≠i2/\c≠i3:=by simpa using hc
   exact e2 _ _ C.2.2.1 (e1.extBut _ _ C.1 q)) he)
 |some x=>
  refine wpAny_bind (N1.item _ k x _ _ j1 hx λg2 j1' e2=>wpAny_pure ?_);have t2:pV g2 TO a b c:=e2.extBut _ _ D.TOi1 (e1.extBut _ _ D.TOz hTO);refine wpAny_bind (wpAny_seqItems t2 rfl ?_);refine wpAny_bind (fL t2 λg3 t3 e3=>?_);replace t3:pV g3 TO x b c:=t3;refine wpAny_bind (wpAny_letGo (wpAny_pure ?_));have z3:IsZip g3 z TI TO .ellipsis:=e3.extBut _ _ D.TOz.symm (e2.extBut _ _ D.i1z.symm z1);have k3:∀c o,c≠z->c≠TO->c≠i1->s.heap.get? c=some o->g3.get? c=some o:=λc o c1 c2 c3 q=>e3.extBut _ _ c2 (e2.extBut _ _ c3 (e1.extBut _ _ c1 q));have j2:st2 k g3:=N2.ext k _ _ h2 λc hc o q=>by
   rcases hc with rfl|rfl
   ·exact k3 _ _ D.i2z D.TOi2.symm D.i12.symm q
   ·exact k3 _ _ L2.1 L2.2.1 L2.2.2.1 q
  refine wpAny_bind (wpAny_bind (wpAny_onRaise ?_));show wpAny _ _ (Builtin.SmallTypes.nextOf (.ref i2) >>= _) _ _ _;cases hy:v2 k with
  |none=>
   exact wpAny_bind (N2.stop _ k _ _ j2 hy λg4 e e4 he=>fin g4 e (e4 _ _ D.i2z.symm z3) (λc o hc q=>by
    have C:c≠z/\c≠TO/\c≠i1/\c≠i2/\c≠i3:=by simpa using hc
    exact e4 _ _ C.2.2.2.1 (k3 c o C.1 C.2.1 C.2.2.1 q)) he)
  |some y=>
   have hu:v3 k=none:=by
    rcases hend with h|h|h
    ·rw[hx] at h;cases h
    ·rw[hy] at h;cases h
    ·exact h
   refine wpAny_bind (N2.item _ k y _ _ j2 hy λg4 j2' e4=>wpAny_pure ?_);have t4:pV g4 TO x b c:=e4.extBut _ _ D.TOi2 t3;refine wpAny_bind (wpAny_seqItems t4 rfl ?_);refine wpAny_bind (fL t4 λg5 t5 e5=>?_);refine wpAny_bind (wpAny_letGo (wpAny_pure ?_));have z5:IsZip g5 z TI TO .ellipsis:=e5.extBut _ _ D.TOz.symm (e4.extBut _ _ D.i2z.symm z3);have k5:∀c o,c≠z->c≠TO->c≠i1->c≠i2->s.heap.get? c=some o->g5.get? c=some o:=λc o c1 c2 c3 c4 q=>e5.extBut _ _ c2 (e4.extBut _ _ c4 (k3 c o c1 c2 c3 q));have j3:st3 k g5:=N3.ext k _ _ h3 λc hc o q=>by
    rcases hc with rfl|rfl
    ·exact k5 _ _ D.i3z D.TOi3.symm D.i13.symm D.i23.symm q
    ·exact k5 _ _ L3.1 L3.2.1 L3.2.2.1 L3.2.2.2.1 q
   refine wpAny_bind (wpAny_bind (wpAny_onRaise ?_));show wpAny _ _ (Builtin.SmallTypes.nextOf (.ref i3) >>= _) _ _ _;exact wpAny_bind (N3.stop _ k _ _ j3 hu λg6 e e6 he=>fin g6 e (e6 _ _ D.i3z.symm z5) (λc o hc q=>by
    have C:c≠z/\c≠TO/\c≠i1/\c≠i2/\c≠i3:=by simpa using hc
    exact e6 _ _ C.2.2.2.2 (k5 c o C.1 C.2.1 C.2.2.1 C.2.2.2.1 q)) he)
end
def JV(K:Frag)(l1 l2 l3:Q9):It:=
 ⟨λi H=>∃xs ys zs x y z,fJ K H l1 xs/\fJ K H l2 ys/\fJ K H l3 zs/\xs[i]?=some x/\ys[i]?=some y/\zs[i]?=some z,
  λi H x H'=>∃p u v t,x=.ref p/\H p=none/\H'=bW H p (.tup [u,v,t])/\(∀xs,fJ K H l1 xs->xs[i]?=some u)/\(∀ys,fJ K H l2 ys->ys[i]?=some v)/\∀zs,fJ K H l3 zs->zs[i]?=some t,
  λi H=>∃xs ys zs,fJ K H l1 xs/\fJ K H l2 ys/\fJ K H l3 zs/\(xs.length<=i\/ys.length<=i\/zs.length<=i)⟩
theorem yF{h h':Vc}{it l:Q9}{k:Nat}(j:h.IsListIter it l k)(e:∀o,h.get? it=some o->h'.get? it=some o):h'.IsListIter it l k:=Heap.IsListIter.at j e
theorem zt{P:Va}{w:Vb}{K:Frag}{elts:List Vd}{kt:Nat}{tp:Pos}(z TI TO i1 i2 i3 l1 l2 l3:Q9)(D:ub z TI TO i1 i2 i3 l1 l2 l3):
  u7 P w K (.Tuple elts kt tp) (JV K l1 l2 l3) [z,TI,TO,i1,i2,i3] z (λi h=>IsZip h z TI TO .none/\pV h TI (.ref i1) (.ref i2) (.ref i3)/\(∃a b c,pV h TO a b c)/\h.IsListIter i1 l1 i/\h.IsListIter i2 l2 i/\h.IsListIter i3 l3 i) where
 mem:=by simp
 obj:=λi h ⟨hz,hTI,⟨a,b,c,hTO⟩,j1,j2,j3⟩ c hc=>by
  have rec1:∀(it l:Q9),h.IsListIter it l i->∃o,h.get? it=some o/\∀v,o.data≠.cell v:=λit l j=>by
   obtain⟨o,e,_,d⟩:=j;exact⟨o,e,λv z=>by rw[d] at z;cases z⟩
  rcases mem_cons.mp hc with rfl|hc
  ·exact⟨_,hz,λv z=>nomatch z⟩
  rcases mem_cons.mp hc with rfl|hc
  ·exact⟨_,hTI,λv z=>nomatch z⟩
  rcases mem_cons.mp hc with rfl|hc
  ·exact⟨_,hTO,λv z=>nomatch z⟩
  rcases mem_cons.mp hc with rfl|hc
  ·exact rec1 _ _ j1
  rcases mem_cons.mp hc with rfl|hc
  ·exact rec1 _ _ j2
  ·rw[mem_singleton.mp hc];exact rec1 _ _ j3
 keep:=λi h h' ⟨hz,hTI,⟨a,b,c,hTO⟩,j1,j2,j3⟩ k=>⟨k z (by simp) _ hz,k TI (by simp) _ hTI,⟨a,b,c,k TO (by simp) _ hTO⟩,yF j1 λo e=>k i1 (by simp) o e,yF j2 λo e=>k i2 (by simp) o e,yF j3 λo e=>k i3 (by simp) o e⟩
 item:=by
  intro X hP hw hK hc i pins s σ H E I hf ⟨hz,hTI,⟨a,b,c,hTO⟩,j1,j2,j3⟩ ⟨xs,ys,zs,x,y,t,q1,q2,q3,hx,hy,ht⟩;subst hP hw hK;obtain⟨t1,r1,p1,_⟩:=I.list q1;obtain⟨t2,r2,p2,_⟩:=I.list q2;obtain⟨t3,r3,p3,_⟩:=I.list q3;obtain⟨u1,e1,ru1⟩:=r1.get hx;obtain⟨u2,e2,ru2⟩:=r2.get hy;obtain⟨u3,e3,ru3⟩:=r3.get ht;have hT:s.TypeIs (.ref z) "zip" := ⟨_,hz,rfl⟩;have n1:l1≠i1:=λe=>D.l1 (by rw[e];simp)
  have n2:l2≠i2:=λe=>D.l2 (by rw[e];simp)
  have n3:l3≠i3:=λe=>D.l3 (by rw[e];simp)
  have N1:=j6 (prog:=X.prog) (w:=X.w) (A:=X.A.in1) (I.ok.hd hc) n1 t1.toArray;have N2:=j6 (prog:=X.prog) (w:=X.w) (A:=X.A.in1) (I.ok.hd hc) n2 t2.toArray;have N3:=j6 (prog:=X.prog) (w:=X.w) (A:=X.A.in1) (I.ok.hd hc) n3 t3.toArray;unfold pyNext;refine wpAny_bind (wpAny_attempt (wpAny_callSpecial?_slot (name:=Str.ofString "__next__") hT F.slot_zip_next (wpAny_call_entry F.slot_zip_next hT F.entry_zip_next
   (zo N1 N2 N3 D hz hTI hTO ⟨j1,p1.isList⟩ ⟨j2,p2.isList⟩ ⟨j3,p3.isList⟩ (by simpa using e1) (by simpa using e2) (by simpa using e3) λg zg tg s1 s2 s3 pg sz kg=>wpAny_pure ⟨_,rfl,?_⟩) (F.args_zip_next_1 _))))
  refine wpAny_letOwnedTupleGo_zip zg λg2 zg2 sb=>?_;have keepg:∀c o,c∉[z,TO,i1,i2,i3]->s.heap.get? c=some o->g2.get? c=some o:=λc o hc e=>sb.extBut _ _ (λe=>hc (by rw[e];simp)) (kg c o hc e)
  have I1:aD X pins σ H {s with heap:=g2}:=I.turnedN (t':=s.toks) keepg λc hc=>hf c (by
   have:c=z\/c=TO\/c=i1\/c=i2\/c=i3:=by simpa using hc
   rcases this with rfl|rfl|rfl|rfl|rfl <;> simp)
  have zlt:z<s.heap.objs.size:=lt_size hz;have pT:pV g2 s.heap.objs.size u1 u2 u3:=sb.extBut _ _ (ne_of_gt zlt) pg;have fT:FpOk X pins H s.heap.objs.size:=I.fpOk (le_refl _) I.fresh;have I2:aD X pins σ (bW H s.heap.objs.size (.tup [x,y,t])) {s with heap:=g2}:=I1.track fT ⟨by show 3<=sizeLine;decide,[u1,u2,u3],.cons ru1 (.cons ru2 (.cons ru3 .nil)),⟨_,pT,rfl,_,rfl⟩⟩
  have mv:∀(it l:Q9),it≠z->g.IsListIter it l (i+1)->g2.IsListIter it l (i+1):=λit l ne j=>yF j λo e=>sb.extBut _ _ ne e;have TIn:TI∉[z,TO,i1,i2,i3]:=by
   have a:=D.TIz;have b:=D.TITO;have c:=D.TIi1;have d:=D.TIi2;have e:=D.TIi3;simp[a,b,c,d,e]
  refine⟨.ref s.heap.objs.size,_,I2,rfl,⟨_,x,y,t,rfl,I.fresh,rfl,λxs' q=>by rw[I.list_inj q q1];exact hx,λys' q=>by rw[I.list_inj q q2];exact hy,λzs' q=>by rw[I.list_inj q q3];exact ht⟩,
   ⟨zg2,sb.extBut _ _ D.TIz (kg _ _ TIn hTI),⟨_,_,_,sb.extBut _ _ D.TOz tg⟩,mv _ _ D.i1z s1.1,mv _ _ D.i2z s2.1,mv _ _ D.i3z s3.1⟩,λc hc=>?_⟩
  rw[ak]
  ·exact(hf c hc).1
  ·intro e;have r1:∀(it l:Q9),s.heap.IsListIter it l i->it<s.heap.objs.size:=λit l j=>by
    obtain⟨o,e,_⟩:=j;exact lt_size e
   have hlt:c<s.heap.objs.size:=by
    have:c=z\/c=TI\/c=TO\/c=i1\/c=i2\/c=i3:=by simpa using hc
    rcases this with rfl|rfl|rfl|rfl|rfl|rfl
    ·exact zlt
    ·exact lt_size hTI
    ·exact lt_size hTO
    ·exact r1 _ _ j1
    ·exact r1 _ _ j2
    ·exact r1 _ _ j3
   rw[e] at hlt;exact lt_irrefl _ hlt
 done:=by
  intro X hP hw hK hc i pins s σ H E I hf ⟨hz,hTI,⟨a,b,c,hTO⟩,j1,j2,j3⟩ ⟨xs,ys,zs,q1,q2,q3,hl⟩;subst hP hw hK;obtain⟨t1,r1,p1,_⟩:=I.list q1;obtain⟨t2,r2,p2,_⟩:=I.list q2;obtain⟨t3,r3,p3,_⟩:=I.list q3;have hT:s.TypeIs (.ref z) "zip" := ⟨_,hz,rfl⟩;have n1:l1≠i1:=λe=>D.l1 (by rw[e];simp)
  have n2:l2≠i2:=λe=>D.l2 (by rw[e];simp)
  have n3:l3≠i3:=λe=>D.l3 (by rw[e];simp)
  have N1:=j6 (prog:=X.prog) (w:=X.w) (A:=X.A.in1) (I.ok.hd hc) n1 t1.toArray;have N2:=j6 (prog:=X.prog) (w:=X.w) (A:=X.A.in1) (I.ok.hd hc) n2 t2.toArray;have N3:=j6 (prog:=X.prog) (w:=X.w) (A:=X.A.in1) (I.ok.hd hc) n3 t3.toArray;have le1:=r1.length;have le2:=r2.length;have le3:=r3.length;have hend:(t1.toArray)[i]?=none\/(t2.toArray)[i]?=none\/(t3.toArray)[i]?=none:=by
   rcases hl with h|h|h
   ·exact .inl (by simp;omega)
   ·exact .inr (.inl (by simp;omega))
   ·exact .inr (.inr (by simp;omega))
  unfold pyNext;refine wpAny_bind (wpAny_attempt (wpAny_callSpecial?_slot (name:=Str.ofString "__next__") hT F.slot_zip_next (wpAny_call_entry F.slot_zip_next hT F.entry_zip_next (zip3_end N1 N2 N3 D hz hTI hTO ⟨j1,p1.isList⟩ ⟨j2,p2.isList⟩ ⟨j3,p3.isList⟩ hend λg e kg ⟨o,ho,hc⟩=>?_) (F.args_zip_next_1 _))));refine wpAny_bind (wpAny_isInstance (T := "StopIteration") (b:=true) ⟨o,ho,hc⟩ isSubtype_stop (wpAny_pure ⟨rfl,I.turnedN (ch:=[z,TO,i1,i2,i3]) (t':=s.toks) kg λc hc=>hf c ?_⟩));have:c=z\/c=TO\/c=i1\/c=i2\/c=i3:=by simpa using hc
  rcases this with rfl|rfl|rfl|rfl|rfl <;> simp
 self:=λA i s Q E st h=>wpAny_pyIter_zip st.1 h
theorem DO(a b c:Q7):checkBuiltinCall "zip.__new__" {pos:=[Value.type "zip",a,b,c]}=pure ():=by kernel_rfl
theorem CT(a b c:Q7):checkTypeCall "zip" {pos:=[a,b,c]}=pure ():=by kernel_rfl
theorem CG(a b c d:Q7):argsOk "object.__init__" {pos:=[a,b,c,d]}:=by kernel_rfl
theorem kb{h:Vc}{a:Q9}{its:Array Q7}(x:h.IsList a its)(o:Obj):(h.push o).IsList a its:=x.at λ_ e=>get?_push_of_some _ e
abbrev y1(h:Vc)(l1:Q9):Vc:=h.push {cls:=.type "list_iterator",data:=.fields #[.ref l1,.int 0 0]}
abbrev y2(h:Vc)(l1 l2:Q9):Vc:=(y1 h l1).push {cls:=.type "list_iterator",data:=.fields #[.ref l2,.int 0 0]}
abbrev y3(h:Vc)(l1 l2 l3:Q9):Vc:=(y2 h l1 l2).push {cls:=.type "list_iterator",data:=.fields #[.ref l3,.int 0 0]}
abbrev y4(h:Vc)(l1 l2 l3:Q9):Vc:=(y3 h l1 l2 l3).push {cls:=.type "tuple",data:=.seq #[.ref h.objs.size,.ref (y1 h l1).objs.size,.ref (y2 h l1 l2).objs.size]}
abbrev y5(h:Vc)(l1 l2 l3:Q9):Vc:=(y4 h l1 l2 l3).push {cls:=.type "tuple",data:=.seq #[.none,.none,.none]}
abbrev y6(h:Vc)(l1 l2 l3:Q9):Vc:=(y5 h l1 l2 l3).push {cls:=.type "zip",data:=.fields #[.none,.bool false,.bool false,.ref (y3 h l1 l2 l3).objs.size,.ref (y4 h l1 l2 l3).objs.size]}
set_option maxHeartbeats 1000000 in
theorem xk(l1 l2 l3:Q9)(xs ys zs:Array Q7):
  Meets (Builtin.«zip.__new__» ⟨[.type "zip",.ref l1,.ref l2,.ref l3],[]⟩) (λ_ R s=>s.heap.IsList l1 xs/\s.heap.IsList l2 ys/\s.heap.IsList l3 zs/\R (.ok (.ret (.ref (y5 s.heap l1 l2 l3).objs.size))) {s with heap:=y6 s.heap l1 l2 l3}):=
 .of_wp λprog w A R s h=>by
  obtain⟨hp,g,d,tk,os⟩:=s;obtain⟨hl1,hl2,hl3,h⟩:=h;have hsub:=sub_zip;have q1:Heap.IsList (Shared.heap ⟨hp,g,d,tk,os⟩) l1 xs:=hl1;have q2:Heap.IsList (Shared.heap ⟨hp.push {cls:=.type "list_iterator",data:=.fields #[.ref l1,.int 0 0]},g,d,tk,os⟩) l2 ys:=kb hl2 _;have q3:Heap.IsList (Shared.heap ⟨(hp.push {cls:=.type "list_iterator",data:=.fields #[.ref l1,.int 0 0]}).push {cls:=.type "list_iterator",data:=.fields #[.ref l2,.int 0 0]},g,d,tk,os⟩) l3 zs:=kb (kb hl3 _) _
  wp_walk using wpAny_pyIter_list q1,wpAny_pyIter_list q2,wpAny_pyIter_list q3
  exact⟨_,rfl,h⟩
section
variable{prog:Va}{w:Vb}{A:Vf}{E:Q7->Q8->Prop}{s:Q8}
theorem Al{l1 l2 l3:Q9}{xs ys zs:Array Q7}{Q:Q7->Q8->Prop}(h1:s.heap.IsList l1 xs)(h2:s.heap.IsList l2 ys)(h3:s.heap.IsList l3 zs)
  (h:∀h' n,n=s.heap.objs.size->IsZip h' (n+5) (n+3) (n+4) .none->pV h' (n+3) (.ref n) (.ref (n+1)) (.ref (n+2))->pV h' (n+4) .none .none .none->
   h'.IsListIter n l1 0->h'.IsListIter (n+1) l2 0->h'.IsListIter (n+2) l3 0->(∀c o,s.heap.get? c=some o->h'.get? c=some o)->Q (.ref (n+5)) {s with heap:=h'}):
  wpAny (model prog w) A (call (.type "zip") [.ref l1,.ref l2,.ref l3]) Q E s:=by
 refine callType_new F.called_zip (by decide) (CT _ _ _) (DO _ _ _) (λobj=>CG obj _ _ _) F.entry_zip_new (xk l1 l2 l3 xs ys zs) ⟨h1,h2,h3,?_⟩
 have n1:(y1 s.heap l1).objs.size=s.heap.objs.size+1:=size_push ..;have n2:(y2 s.heap l1 l2).objs.size=s.heap.objs.size+2:=by rw[size_push,n1]
 have n3:(y3 s.heap l1 l2 l3).objs.size=s.heap.objs.size+3:=by rw[size_push,n2]
 have n4:(y4 s.heap l1 l2 l3).objs.size=s.heap.objs.size+4:=by rw[size_push,n3]
 have n5:(y5 s.heap l1 l2 l3).objs.size=s.heap.objs.size+5:=by rw[size_push,n4]
 have p (o:Obj) {h:Vc} {c:Q9} {u:Obj} (e:h.get? c=some u):(h.push o).get? c=some u:=get?_push_of_some _ e;have g6:(y6 s.heap l1 l2 l3).get? (y5 s.heap l1 l2 l3).objs.size=some _:=get?_push_size _ rfl;have g5:(y6 s.heap l1 l2 l3).get? (y4 s.heap l1 l2 l3).objs.size=some _:=p _ (get?_push_size _ rfl);have g4:(y6 s.heap l1 l2 l3).get? (y3 s.heap l1 l2 l3).objs.size=some _:=p _ (p _ (get?_push_size _ rfl));have g3:(y6 s.heap l1 l2 l3).get? (y2 s.heap l1 l2).objs.size=some _:=p _ (p _ (p _ (get?_push_size _ rfl)));have g2:(y6 s.heap l1 l2 l3).get? (y1 s.heap l1).objs.size=some _:=p _ (p _ (p _ (p _ (get?_push_size _ rfl))));have g1:(y6 s.heap l1 l2 l3).get? s.heap.objs.size=some _:=p _ (p _ (p _ (p _ (p _ (get?_push_size _ rfl)))));show _/\_;rw[n3,n4,n5] at g6;rw[n1,n2,n3] at g4;rw[n4] at g5;rw[n1] at g2;rw[n2] at g3;rw[n5];exact⟨⟨_,g6,rfl⟩,h _ _ rfl g6 g4 g5 ⟨_,g1,rfl,rfl⟩ ⟨_,g2,rfl,rfl⟩ ⟨_,g3,rfl,rfl⟩ λc o x=>p _ (p _ (p _ (p _ (p _ (p _ x)))))⟩
end
section
variable{X:Cx}
def Gm(K:Frag)(ta:TA):TI:=λσ H R=>ta σ H λvs H1=>∃l1 l2 l3,vs=[.ref l1,.ref l2,.ref l3]/\(∃xs,fJ K H1 l1 xs)/\(∃ys,fJ K H1 l2 ys)/\(∃zs,fJ K H1 l3 zs)/\R (JV K l1 l2 l3) H1
theorem Dw{a b c:Vd}{ta:TA}{p pos:Pos}{elts:List Vd}{kt:Nat}{tp:Pos}(hg:Gl X "zip")(hm:X.mg "zip" = none)(ha:PA X [a,b,c] ta)(hs:starEach [a,b,c] X.env=[(false,eval a X.env),(false,eval b X.env),(false,eval c X.env)]:=by rfl)(hs2:starEach [b,c] X.env=[(false,eval b X.env),(false,eval c X.env)]:=by rfl):
  PI X (.Tuple elts kt tp) (.Call (.Name "zip" p) [a,b,c] [] pos) (Gm X.K ta):=by
 intro pins s σ H R I h;refine Call_ (jH I hg hm boot_zip (PyProof.Rows.callWith_type1 (cA (ha pos pins s σ H _ I h) λus s1 ⟨vs,H1,I1,r1,l1,l2,l3,e,⟨xs,q1⟩,⟨ys,q2⟩,⟨zs,q3⟩,q⟩=>?_) (by rw[hs,hs2]) (by rw[hs2];rfl)))
 subst e;obtain⟨u,w,t,rfl,r1,r2,r3⟩:∃u w t,us=[u,w,t]/\RelV (.ref l1) u/\RelV (.ref l2) w/\RelV (.ref l3) t:=by
  cases r1 with
  |cons a r=>cases r with
   |cons b r=>cases r with
    |cons c r=>cases r;exact⟨_,_,_,rfl,a,b,c⟩
 cases r1;cases r2;cases r3;have lt:∀{l:Q9}{its:Array Q7},s1.heap.IsList l its->l<s1.heap.objs.size:=λ{l its} h=>by obtain⟨_,e,_⟩:=h;exact lt_size e
 obtain⟨t1,_,p1,_⟩:=I1.list q1;obtain⟨t2,_,p2,_⟩:=I1.list q2;obtain⟨t3,_,p3,_⟩:=I1.list q3;have lt1:=lt p1.isList;have lt2:=lt p2.isList;have lt3:=lt p3.isList;refine Al p1.isList p2.isList p3.isList λh' n en z1 z2 z3 j1 j2 j3 kp=>wpAny_pyIter_zip z1 ?_;rw[<-en] at lt1 lt2 lt3;have ap:∀{l:Q9},l<n->l∉[n+5,n+4,n,n+1,n+2]:=λ{l} h e=>by
  simp at e;rcases e with rfl|rfl|rfl|rfl|rfl
  ·exact absurd h (Nat.not_lt.mpr (le_add_right _ _))
  ·exact absurd h (Nat.not_lt.mpr (le_add_right _ _))
  ·exact absurd h (lt_irrefl _)
  ·exact absurd h (Nat.not_lt.mpr (le_add_right _ _))
  ·exact absurd h (Nat.not_lt.mpr (le_add_right _ _))
 have D:ub (n+5) (n+3) (n+4) n (n+1) (n+2) l1 l2 l3:=by
  refine⟨?_,?_,?_,?_,?_,?_,?_,?_,?_,?_,?_,?_,?_,?_,?_,ap lt1,ap lt2,ap lt3⟩ <;> simp
 refine⟨_,_,_,_,H1,rfl,I1.kept (t':=s1.toks) kp,zt _ _ _ _ _ _ l1 l2 l3 D,⟨z1,z2,⟨_,_,_,z3⟩,j1,j2,j3⟩,λc hc=>?_,q⟩;have hle:s1.heap.objs.size<=c:=by
  rw[<-en];have:c=n+5\/c=n+3\/c=n+4\/c=n\/c=n+1\/c=n+2:=by simpa using hc
  rcases this with rfl|rfl|rfl|rfl|rfl|rfl
  ·exact le_add_right _ _
  ·exact le_add_right _ _
  ·exact le_add_right _ _
  ·exact le_refl _
  ·exact le_add_right _ _
  ·exact le_add_right _ _
 exact I1.fpOk hle (I1.hok.fresh hle)
end
abbrev Iy(h:Vc)(l1 l2:Q9):Vc:=(EE h l1).push {cls:=.type "list_iterator",data:=.fields #[.ref l2,.int 0 0]}
abbrev Iw(h:Vc)(l1 l2:Q9):Vc:=(Iy h l1 l2).push {cls:=.type "tuple",data:=.seq #[.ref h.objs.size,.ref (EE h l1).objs.size]}
abbrev Iu(h:Vc)(l1 l2:Q9):Vc:=(Iw h l1 l2).push {cls:=.type "tuple",data:=.seq #[.none,.none]}
abbrev GQ(h:Vc)(l1 l2:Q9):Vc:=(Iu h l1 l2).push {cls:=.type "zip",data:=.fields #[.none,.bool false,.bool false,.ref (Iy h l1 l2).objs.size,.ref (Iw h l1 l2).objs.size]}
set_option maxHeartbeats 1000000 in
theorem xj(l1 l2:Q9)(xs ys:Array Q7):
  Meets (Builtin.«zip.__new__» ⟨[.type "zip",.ref l1,.ref l2],[]⟩) (λ_ R s=>s.heap.IsTuple l1 xs/\s.heap.IsList l2 ys/\R (.ok (.ret (.ref (Iu s.heap l1 l2).objs.size))) {s with heap:=GQ s.heap l1 l2}):=
 .of_wp λprog w A R s h=>by
  obtain⟨hp,g,d,tk,os⟩:=s;obtain⟨hl1,hl2,h⟩:=h;have hsub:=sub_zip;have q1:Heap.IsTuple (Shared.heap ⟨hp,g,d,tk,os⟩) l1 xs:=hl1;have q2:Heap.IsList (Shared.heap ⟨hp.push {cls:=.type "tuple_iterator",data:=.fields #[.ref l1,.int 0 0]},g,d,tk,os⟩) l2 ys:=kb hl2 _
  wp_walk using wpAny_pyIter_tuple q1,wpAny_pyIter_list q2
  exact⟨_,rfl,h⟩
section
variable{prog:Va}{w:Vb}{A:Vf}{E:Q7->Q8->Prop}{s:Q8}
theorem Ak{l1 l2:Q9}{xs ys:Array Q7}{Q:Q7->Q8->Prop}(h1:s.heap.IsTuple l1 xs)(h2:s.heap.IsList l2 ys)
  (h:∀h',IsZip h' (s.heap.objs.size+4) (s.heap.objs.size+2) (s.heap.objs.size+3) .none->IsPair h' (s.heap.objs.size+2) (.ref s.heap.objs.size) (.ref (s.heap.objs.size+1))->IsPair h' (s.heap.objs.size+3) .none .none->
   tx h' false s.heap.objs.size l1 0->tx h' true (s.heap.objs.size+1) l2 0->(∀c o,s.heap.get? c=some o->h'.get? c=some o)->Q (.ref (s.heap.objs.size+4)) {s with heap:=h'}):
  wpAny (model prog w) A (call (.type "zip") [.ref l1,.ref l2]) Q E s:=by
 refine callType_new F.called_zip (by decide) (F.typeCall_zip_2 _ _) (F.newCall_zip_2 _ _) (λobj=>F.args_object_init_3 obj _ _) F.entry_zip_new (xj l1 l2 xs ys) ⟨h1,h2,?_⟩
 have n1:(EE s.heap l1).objs.size=s.heap.objs.size+1:=size_push ..;have n2:(Iy s.heap l1 l2).objs.size=s.heap.objs.size+2:=by rw[size_push,n1]
 have n3:(Iw s.heap l1 l2).objs.size=s.heap.objs.size+3:=by rw[size_push,n2]
 have n4:(Iu s.heap l1 l2).objs.size=s.heap.objs.size+4:=by rw[size_push,n3]
 have p (o:Obj) {h:Vc} {c:Q9} {u:Obj} (e:h.get? c=some u):(h.push o).get? c=some u:=get?_push_of_some _ e;have g5:(GQ s.heap l1 l2).get? (Iu s.heap l1 l2).objs.size=some _:=get?_push_size _ rfl;have g4:(GQ s.heap l1 l2).get? (Iw s.heap l1 l2).objs.size=some _:=p _ (get?_push_size _ rfl);have g3:(GQ s.heap l1 l2).get? (Iy s.heap l1 l2).objs.size=some _:=p _ (p _ (get?_push_size _ rfl));have g2:(GQ s.heap l1 l2).get? (EE s.heap l1).objs.size=some _:=p _ (p _ (p _ (get?_push_size _ rfl)));have g1:(GQ s.heap l1 l2).get? s.heap.objs.size=some _:=p _ (p _ (p _ (p _ (get?_push_size _ rfl))));show _/\_;rw[n2,n3,n4] at g5;rw[n1,n2] at g3;rw[n3] at g4;rw[n1] at g2;rw[n4];exact⟨⟨_,g5,rfl⟩,h _ g5 g3 g4 ⟨_,g1,rfl,rfl⟩ ⟨_,g2,rfl,rfl⟩ λc o x=>p _ (p _ (p _ (p _ (p _ x))))⟩
end
section
variable{X:Cx}
def Gk(K:Frag)(ta:TA):TI:=λσ H R=>ta σ H λvs H1=>∃l1 l2,vs=[.ref l1,.ref l2]/\(∃xs,jS K H1 l1 xs)/\(∃ys,fJ K H1 l2 ys)/\R (IG K false l1 true l2) H1
theorem Dv{a b:Vd}{ta:TA}{p pos:Pos}{elts:List Vd}{kt:Nat}{tp:Pos}(hg:Gl X "zip")(hm:X.mg "zip" = none)(ha:PA X [a,b] ta)(hs:starEach [a,b] X.env=[(false,eval a X.env),(false,eval b X.env)]:=by rfl)(hs2:starEach [b] X.env=[(false,eval b X.env)]:=by rfl):
  PI X (.Tuple elts kt tp) (.Call (.Name "zip" p) [a,b] [] pos) (Gk X.K ta):=by
 intro pins s σ H R I h;refine Call_ (jH I hg hm boot_zip (PyProof.Rows.callWith_type1 (cA (ha pos pins s σ H _ I h) λus s1 ⟨vs,H1,I1,r1,l1,l2,e,⟨xs,q1⟩,⟨ys,q2⟩,q⟩=>?_) (by rw[hs,hs2]) (by rw[hs2];rfl)))
 subst e;obtain⟨u,w,rfl,r1,r2⟩:=AS r1;cases r1;cases r2;obtain⟨t1,_,p1,lt1⟩:=I1.seqX (b:=false) q1;obtain⟨t2,_,p2,lt2⟩:=I1.seqX (b:=true) q2;refine Ak p1 p2 λh' z1 z2 z3 j1 j2 kp=>wpAny_pyIter_zip z1 ?_;have D:ZipApart (s1.heap.objs.size+4) (s1.heap.objs.size+2) (s1.heap.objs.size+3) s1.heap.objs.size (s1.heap.objs.size+1) l1 l2:=zipApart_new lt1 lt2;refine⟨_,_,_,_,H1,rfl,I1.kept (t':=s1.toks) kp,ui false true _ _ _ _ _ l1 l2 D,⟨z1,z2,⟨_,_,z3⟩,j1,j2⟩,λc hc=>?_,q⟩;have hle:s1.heap.objs.size<=c:=by
  have:c=s1.heap.objs.size+4\/c=s1.heap.objs.size+2\/c=s1.heap.objs.size+3\/c=s1.heap.objs.size\/c=s1.heap.objs.size+1:=by simpa using hc
  rcases this with rfl|rfl|rfl|rfl|rfl
  ·exact le_add_right _ _
  ·exact le_add_right _ _
  ·exact le_add_right _ _
  ·exact le_refl _
  ·exact le_add_right _ _
 exact I1.fpOk hle (I1.hok.fresh hle)
end
end L2
namespace L3
open PySem PySem.Spec L2
def oy:List D->List D->List D->List D
 |x::xs,y::ys,z::zs=>.tup [x,y,z]::oy xs ys zs
 |_,_,_=>[]
theorem uf:∀(xs ys zs:List D)(i:Nat)(x y z:D),xs[i]?=some x->ys[i]?=some y->zs[i]?=some z->(oy xs ys zs)[i]?=some (.tup [x,y,z])
 |x::xs,y::ys,z::zs,0,_,_,_,h1,h2,h3=>by cases h1;cases h2;cases h3;rfl
 |x::xs,y::ys,z::zs,i+1,_,_,_,h1,h2,h3=>uf xs ys zs i _ _ _ h1 h2 h3
 |[],_,_,_,_,_,_,h1,_,_=>nomatch h1
 |_::_,[],_,_,_,_,_,_,h1,_=>nomatch h1
 |_::_,_::_,[],_,_,_,_,_,_,h1=>nomatch h1
theorem rP:∀(xs ys zs:List D)(i:Nat),i<(oy xs ys zs).length->i<xs.length/\i<ys.length/\i<zs.length
 |x::xs,y::ys,z::zs,0,_=>⟨Nat.succ_pos _,Nat.succ_pos _,Nat.succ_pos _⟩
 |x::xs,y::ys,z::zs,i+1,h=>by
  have:=rP xs ys zs i (Nat.lt_of_succ_lt_succ h);exact⟨Nat.succ_lt_succ this.1,Nat.succ_lt_succ this.2.1,Nat.succ_lt_succ this.2.2⟩
 |[],_,_,_,h=>nomatch h
 |_::_,[],_,_,h=>nomatch h
 |_::_,_::_,[],_,h=>nomatch h
theorem zip3_end:∀(xs ys zs:List D),xs.length<=(oy xs ys zs).length\/ys.length<=(oy xs ys zs).length\/zs.length<=(oy xs ys zs).length
 |x::xs,y::ys,z::zs=>by
  rcases zip3_end xs ys zs with h|h|h
  ·exact .inl (Nat.succ_le_succ h)
  ·exact .inr (.inl (Nat.succ_le_succ h))
  ·exact .inr (.inr (Nat.succ_le_succ h))
 |[],_,_=>.inl (zero_le _)
 |_::_,[],_=>.inr (.inl (zero_le _))
 |_::_,_::_,[]=>.inr (.inr (zero_le _))
def AK(x y z:D):Option RI:=match x,y,z with
 |.lst xs,.lst ys,.lst zs=>some (.ok (oy xs ys zs))
 |_,_,_=>none
def Cc(a b c:ME):MI:=λρ=>mn a ρ λx=>mn b ρ λy=>mn c ρ λz=>AK x y z
def AJ(x y:D):Option RI:=match x,y with
 |.tup xs,.lst ys=>some (.ok (zipWith (λu v=>D.tup [u,v]) xs ys))
 |_,_=>none
def Cb(a b:ME):MI:=λρ=>mn a ρ λx=>mn b ρ λy=>AJ x y
theorem wz{x y z:D}{r:RI}(h:AK x y z=some r):∃xs ys zs,x=.lst xs/\y=.lst ys/\z=.lst zs/\r=.ok (oy xs ys zs):=by
 unfold AK at h;split at h
 ·cases h;exact⟨_,_,_,rfl,rfl,rfl,rfl⟩
 ·cases h
theorem wy{x y:D}{r:RI}(h:AJ x y=some r):∃xs ys,x=.tup xs/\y=.lst ys/\r=.ok (zipWith (λu v=>D.tup [u,v]) xs ys):=by
 unfold AJ at h;split at h
 ·cases h;exact⟨_,_,rfl,rfl,rfl⟩
 ·cases h
section
variable{X:Cx}{Γ:Ct}{W:XW}
theorem Bu{a b c:Vd}{ga gb gc:ME}{p pos tp:Pos}{elts:List Vd}{kt:Nat}(hK:X.K=Γ.K)(hg:Gl X "zip")(hm:X.mg "zip" = none)(ha:PD X Γ W a ga)(hb:PD X Γ W b gb)(hc:PD X Γ W c gc)
  (hs1:starEach [a,b,c] X.env=(false,eval a X.env)::starEach [b,c] X.env:=by rfl) (hs2:starEach [b,c] X.env=(false,eval b X.env)::starEach [c] X.env:=by rfl) (hs3:starEach [c] X.env=(false,eval c X.env)::starEach [] X.env:=by rfl)
  (hs4:starEach [a,b,c] X.env=[(false,eval a X.env),(false,eval b X.env),(false,eval c X.env)]:=by rfl) (hs5:starEach [b,c] X.env=[(false,eval b X.env),(false,eval c X.env)]:=by rfl):
  AC X Γ W (.Tuple elts kt tp) (.Call (.Name "zip" p) [a,b,c] [] pos) (Cc ga gb gc):=PI.imp (Dw hg hm (bH ha (bH hb (bH hc de hs3) hs2) hs1) hs4 hs5) λ_ _ σ H Q _ ⟨B0,B1,Hs,ρ,r,re,e,q⟩=>by
 refine(su re e q).mono λv H1 ⟨Hs1,d,g1,re1,rp,e1,q1⟩=>?_;refine(su re1 e1 q1).mono λu H2 ⟨Hs2,d2,g2,re2,rp2,e2,q2⟩=>?_;refine(su re2 e2 q2).mono λt H3 ⟨Hs3,d3,g3,re3,rp3,e3,q3⟩=>?_;have rp:=(rp.mono g2.s).mono g3.s;have rp2:=rp2.mono g3.s;have sm:=re3.b.i;obtain⟨ds,es,fs,rfl,rfl,rfl,rfl⟩:=wz e3;obtain⟨l1,xs,rfl,s1,rl1⟩:=aH.mp rp;obtain⟨l2,ys,rfl,s2,rl2⟩:=aH.mp rp2;obtain⟨l3,zs,rfl,s3,rl3⟩:=aH.mp rp3;rw[<-hK] at s1 s2 s3;refine⟨l1,l2,l3,rfl,⟨xs,aj.seq sm s1⟩,⟨ys,aj.seq sm s2⟩,⟨zs,aj.seq sm s3⟩,q3 _ Hs3 H3 (.refl sm) ⟨λi Hs4 H4 hi k1 k2=>?_,λHs4 H4 k1 k2=>?_,λi Hs4 H4 x H5 hi k1 k2 y=>?_⟩⟩
 ·obtain⟨i1,i2,i3⟩:=rP _ _ _ _ hi;rw[rl1.length] at i1;rw[rl2.length] at i2;rw[rl3.length] at i3;exact⟨xs,ys,zs,xs[i],ys[i],zs[i],aj.seq (k1.trans k2) s1,aj.seq (k1.trans k2) s2,aj.seq (k1.trans k2) s3,getElem?_eq_getElem i1,getElem?_eq_getElem i2,getElem?_eq_getElem i3⟩
 ·refine⟨xs,ys,zs,aj.seq (k1.trans k2) s1,aj.seq (k1.trans k2) s2,aj.seq (k1.trans k2) s3,?_⟩;rw[<-rl1.length,<-rl2.length,<-rl3.length];exact zip3_end ds es fs
 ·obtain⟨p,a1,a2,a3,rfl,hp,rfl,f1,f2,f3⟩:=y;obtain⟨i1,i2,i3⟩:=rP _ _ _ _ hi;obtain⟨x1,e1,q1'⟩:=rl1.get (getElem?_eq_getElem i1);obtain⟨x2,e2,q2'⟩:=rl2.get (getElem?_eq_getElem i2);obtain⟨x3,e3,q3'⟩:=rl3.get (getElem?_eq_getElem i3);have z1:=f1 xs (aj.seq (k1.trans k2) s1);have z2:=f2 ys (aj.seq (k1.trans k2) s2);have z3:=f3 zs (aj.seq (k1.trans k2) s3);rw[e1] at z1;rw[e2] at z2;rw[e3] at z3;cases z1;cases z2;cases z3;refine⟨.tup [ds[i],es[i],fs[i]],bW Hs4 p (.tup [a1,a2,a3]),uf _ _ _ _ _ _ _ (getElem?_eq_getElem i1) (getElem?_eq_getElem i2) (getElem?_eq_getElem i3),.new k2 hp,?_⟩;have k3:aj Hs4 (bW Hs4 p (.tup [a1,a2,a3])):=bJ (k2.free hp);exact aS.mpr ⟨p,[a1,a2,a3],rfl,.of aF,.cons ((q1'.mono k1).mono k3) (.cons ((q2'.mono k1).mono k3) (.cons ((q3'.mono k1).mono k3) .nil))⟩
theorem v5{a b:Vd}{ga gb:ME}{p pos tp:Pos}{elts:List Vd}{kt:Nat}(hK:X.K=Γ.K)(hg:Gl X "zip")(hm:X.mg "zip" = none)(ha:PD X Γ W a ga)(hb:PD X Γ W b gb)
  (hs1:starEach [a,b] X.env=(false,eval a X.env)::starEach [b] X.env:=by rfl) (hs2:starEach [b] X.env=(false,eval b X.env)::starEach [] X.env:=by rfl) (hs3:starEach [a,b] X.env=[(false,eval a X.env),(false,eval b X.env)]:=by rfl) (hs4:starEach [b] X.env=[(false,eval b X.env)]:=by rfl):
  AC X Γ W (.Tuple elts kt tp) (.Call (.Name "zip" p) [a,b] [] pos) (Cb ga gb):=PI.imp (Dv hg hm (bH ha (bH hb de hs2) hs1) hs3 hs4) λ_ _ σ H Q _ ⟨B0,B1,Hs,ρ,r,re,e,q⟩=>by
 refine(su re e q).mono λv H1 ⟨Hs1,d,g1,re1,rp,e1,q1⟩=>?_;refine(su re1 e1 q1).mono λu H2 ⟨Hs2,d2,g2,re2,rp2,e2,q2⟩=>?_;have rp:=rp.mono g2.s;have sm:=re2.b.i;obtain⟨ds,es,rfl,rfl,rfl⟩:=wy e2;obtain⟨l1,xs,rfl,s1,rl1⟩:=aS.mp rp;obtain⟨l2,ys,rfl,s2,rl2⟩:=aH.mp rp2;rw[<-hK] at s1 s2;refine⟨l1,l2,rfl,⟨xs,b9 sm s1⟩,⟨ys,aj.seq sm s2⟩,q2 _ Hs2 H2 (.refl sm) ⟨λi Hs3 H3 hi k1 k2=>?_,λHs3 H3 k1 k2=>?_,λi Hs3 H3 x H4 hi k1 k2 y=>?_⟩⟩
 ·rw[length_zipWith] at hi;have i1:i<xs.length:=by rw[<-rl1.length];omega
  have i2:i<ys.length:=by rw[<-rl2.length];omega
  exact⟨xs,ys,xs[i],ys[i],b9 (k1.trans k2) s1,aj.seq (k1.trans k2) s2,getElem?_eq_getElem i1,getElem?_eq_getElem i2⟩
 ·refine⟨xs,ys,b9 (k1.trans k2) s1,aj.seq (k1.trans k2) s2,?_⟩;rw[length_zipWith,<-rl1.length,<-rl2.length];omega
 ·rw[length_zipWith] at hi;obtain⟨p,a1,a2,rfl,hp,rfl,f1,f2⟩:=y;have i1:i<ds.length:=by omega
  have i2:i<es.length:=by omega
  obtain⟨x1,e1,q1'⟩:=rl1.get (getElem?_eq_getElem i1);obtain⟨x2,e2,q2'⟩:=rl2.get (getElem?_eq_getElem i2);have z1:=f1 xs (b9 (k1.trans k2) s1);have z2:=f2 ys (aj.seq (k1.trans k2) s2);rw[e1] at z1;rw[e2] at z2;cases z1;cases z2;refine⟨.tup [ds[i],es[i]],bW Hs3 p (.tup [a1,a2]),?_,.new k2 hp,?_⟩
  ·rw[List.getElem?_zipWith,getElem?_eq_getElem i1,getElem?_eq_getElem i2]
  ·have k3:aj Hs3 (bW Hs3 p (.tup [a1,a2])):=bJ (k2.free hp);exact aS.mpr ⟨p,[a1,a2],rfl,.of aF,.cons ((q1'.mono k1).mono k3) (.cons ((q2'.mono k1).mono k3) .nil)⟩
end
end L3
namespace L3
open PySem PySem.Spec PyProof.Rows L2
def gY(x y:D):Option R:=match x,y with
 |.lst ds,.lst []=>okB ds.isEmpty
 |_,_=>none
theorem w9{x y:D}{r:R}(h:gY x y=some r):∃ds,x=.lst ds/\y=.lst []/\r=.ok (.sh (.bl ds.isEmpty)):=by
 unfold gY at h;split at h
 ·cases h;exact⟨_,rfl,rfl,rfl⟩
 ·cases h
def Cz(n:Nat)(x y:D):Option R:=match x,y with
 |.lst xs,.lst ys=>if xs.length=ys.length then(jN (pU n) xs ys).bind λb=>okB (!b) else okB true
 |_,_=>none
theorem iL{X:Cx}{Γ:Ct}{W:XW}(hK:X.K=Γ.K)(hu:X.A.units<cLine):gd X (compareOp .Eq) (rD Γ W gY):=λpins s σ H x y v u Q I rx ry ⟨Hs,d1,d2,r,sm,r1,r2,e,q⟩=>by
 obtain⟨ds,rfl,rfl,rfl⟩:=w9 e;obtain⟨a,xs,rfl,qa,la⟩:=aH.mp r1;obtain⟨b,ys,rfl,qb,lb⟩:=aH.mp r2;cases rx;cases ry;obtain rfl:=bz.mp lb;obtain⟨its,ra,pa,za⟩:=I.list (by rw[hK];exact aj.seq sm qa)
 obtain⟨its2,rb,pb,zb⟩:=I.list (by rw[hK];exact aj.seq sm qb)
 have l1:=ra.length;have l2:=rb.length;have l3:=la.length;have fin:∀c:Bool,ds.isEmpty=c->EP X pins σ Q (.bool c) s:=λc hc=>by subst hc;exact⟨.bl _,H,I,rfl,cV sm q (aw.mpr rfl)⟩
 cases ds with
 |nil=>
  have h0:its=[]:=by cases its with|nil=>rfl|cons _ _=>simp at l1 l3;omega
  have h2:its2=[]:=by cases its2 with|nil=>rfl|cons _ _=>simp at l2
  subst h0 h2;exact PySem.SeqAt.RcAt.lists (e:=λ_=>true) pa.isList pb.isList rfl hu (λj h1 _=>absurd h1 (by simp)) X.prog X.w X.xe _ (fin _ rfl)
 |cons d ds=>
  refine PySem.SeqAt.RcAt.lists_lengths pa.isList pb.isList ?_ hu X.prog X.w X.xe _ (fin _ rfl);rw[size_toArray,size_toArray,<-l1,<-l2,<-l3];simp
theorem DG{X:Cx}{Γ:Ct}{W:XW}{n:Nat}(hK:X.K=Γ.K)(hu:X.A.units+(n+1)<cLine):gd X (compareOp .NotEq) (rD Γ W (Cz n)):=λpins s σ H x y v u Q I rx ry ⟨Hs,d1,d2,r,sm,r1,r2,e,q⟩=>by
 unfold Cz at e;split at e
 ·rename_i xs ys;have ih:=vX hK I n X.A.in1 (by show X.A.units+1+n<cLine;omega)
  obtain⟨a,vs,rfl,q1,l1⟩:=aH.mp (r1.mono sm);obtain⟨a',ws,rfl,q2,l2⟩:=aH.mp (r2.mono sm);cases rx;cases ry;obtain⟨its,v1,p1,_⟩:=I.list (by rw[hK];exact q1)
  obtain⟨its2,v2,p2,_⟩:=I.list (by rw[hK];exact q2)
  have s1:its.toArray.size=xs.length:=by rw[size_toArray,<-v1.length,<-l1.length]
  have s2:its2.toArray.size=ys.length:=by rw[size_toArray,<-v2.length,<-l2.length]
  by_cases hl:xs.length=ys.length
  ·rw[if_pos hl] at e;cases h:jN (pU n) xs ys with
   |none=>rw[h] at e;cases e
   |some b=>
    rw[h] at e;cases e;have e:=PySem.SeqAt.RcNeAt.lists p1.isList p2.isList (A:=X.A) (by rw[s1,s2,hl]) (by omega) (lG n ih h l1 l2 v1 v2)
    have ea:=mw _ xs ys b h;rw[hl,Nat.min_self,beq_self_eq_true,Bool.and_true] at ea;rw[s1,hl,<-ea] at e;exact e X.prog X.w X.xe _ ⟨.bl (!b),H,I,rfl,cV sm q (aw.mpr rfl)⟩
  ·rw[if_neg hl] at e;cases e;exact PySem.SeqAt.RcNeAt.lists_lengths p1.isList p2.isList (by rw[s1,s2];simpa using hl) (by omega) X.prog X.w X.xe _ ⟨.bl true,H,I,rfl,cV sm q (aw.mpr rfl)⟩
 ·cases e
def oJ(i jy m:Nat)(ge:ME):MC:=λρ=>match ρ[i]? with
 |some (some (.own (.lst ds)))=>jK i jy m (.lst ds) ge ds ρ
 |_=>none
theorem uN{i jy m:Nat}{ge:ME}{ρ:aA}{out:kh}(h:oJ i jy m ge ρ=some out):∃ds,ρ[i]?=some (some (.own (.lst ds)))/\jK i jy m (.lst ds) ge ds ρ=some out:=by
 unfold oJ at h;split at h
 ·exact⟨_,by assumption,h⟩
 ·cases h
section
variable{Γ:Ct}{B0 B1 Hs H:Hp}{σ:L2.St}{ρ:aA}{i:Nat}{ds:List D}{a:Q9}{ho:HO}
theorem RE.demL(r:RE Γ B0 B1 Hs H σ ρ)(e:ρ[i]?=some (some (.own (.lst ds))))(e1:σ[i]?=some (some (.ref a)))(e2:B1 a=none)(e3:Hs a=none)(e4:H a=some ho)(q:cQ Γ Hs a (.lst ds) ho):RE Γ B0 B1 (bW Hs a ho) H σ (ρ.set i (some (.sh (.lst ds)))):=by
 have q:=q.o (λkvs z=>by cases z) (λb u z=>by cases z) (λkvs z=>by cases z) (λkvs z=>by cases z) λt z=>by cases z
 have hi:i<ρ.length:=(List.getElem?_eq_some_iff.mp e).1;have sm:aj Hs (bW Hs a ho):=bJ e3;have sh':aj (bW Hs a ho) H:=λb u z=>by
  by_cases hb:b=a
  ·subst hb;rw[aF] at z;cases z;exact e4
  ·rw[ak hb] at z;exact r.b.i _ _ z
 refine⟨⟨r.b.s.trans sm,r.b.h,sh',λb u z=>?_⟩,λj d hj=>?_,λj u hj=>?_,λj k u u' c hjk hj hk ha=>?_,by rw[length_set,r.len],r.tb.trans sm⟩
 ·by_cases hb:b=a
  ·subst hb;exact .inr e2
  ·rw[ak hb] at z;exact r.b.n _ _ z
 ·by_cases h:i=j
  ·subst h;rw[getElem?_set_self hi] at hj;cases hj;exact⟨.ref a,e1,(q.mono sm).val aF⟩
  ·rw[getElem?_set_ne h] at hj;obtain⟨v,f1,f2⟩:=r.sh j d hj;exact⟨v,f1,f2.mono sm⟩
 ·by_cases h:i=j
  ·subst h;rw[getElem?_set_self hi] at hj;cases hj
  ·rw[getElem?_set_ne h] at hj;obtain⟨c,hc,f1,f2,f3,f4,f5⟩:=r.own j u hj;refine⟨c,hc,f1,f2,?_,f4,f5.mono sm⟩;rw[ak]
   ·exact f3
   ·intro z;subst z;exact r.apart i j (.lst ds) u c h e hj e1 f1
 ·have n1:i≠j:=λz=>by subst z;rw[getElem?_set_self hi] at hj;cases hj
  have n2:i≠k:=λz=>by subst z;rw[getElem?_set_self hi] at hk;cases hk
  rw[getElem?_set_ne n1] at hj;rw[getElem?_set_ne n2] at hk;exact r.apart j k u u' c hjk hj hk ha
end
section
variable{X:Cx}{Γ:Ct}{i jy m:Nat}{x y:Str}{e iter:Vd}{ge:ME}{yp xp apos pos:Pos}
theorem zO(hij:jy≠i)(him:m≠i)(hN:X.N.Nodup)(hjy:X.N[jy]?=some y)(hm:X.N[m]?=some x)(hp:PassesOwn (model X.prog X.w) X.A X.env X.xe)(hc:X.calm=true)(hi:AC X Γ W0 (.Name y yp) iter (fB (eVar i)))(he:PD X Γ W0 e ge)
  (hly:rO X.env.scope y:=by first|exact Or.inl rfl|exact Or.inr rfl) (hlx:rO X.env.scope x:=by first|exact Or.inl rfl|exact Or.inr rfl)
  (hs:swapsWith e (some (.Name x xp)) apos.line X.env=pure false:=by rfl) (hs2:∀z,foldedSetIterable iter X.env z=pure z:=by intro _;rfl)
  (hfy:X.fn y=true\/X.env.scope.names.lookup y=some .local:=by first|exact .inl rfl|exact .inr rfl|assumption) (hfx:X.fn x=true\/X.env.scope.names.lookup x=some .local:=by first|exact .inl rfl|exact .inr rfl|assumption):
  ox X Γ W0 (.For (.Name y yp) iter [.Assign [.Name x xp] e apos] [] pos) (oJ i jy m ge):=
 PS.imp (wX hp hc hi (ia hN hjy hly hfy) (sJ (sL hN hm hlx he hs hfx)) hs2) λpins s σ H En I ⟨B0,B1,Hs,ρ,out,re,eo,q⟩=>by
  obtain⟨ds,hd,eo⟩:=uN eo;obtain⟨a,ho,f1,f2,f3,f4,f5⟩:=re.own i _ hd;have hml:m<σ.length:=by rw[I.len];exact(List.getElem?_eq_some_iff.mp hm).1
  have hyl:jy<σ.length:=by rw[I.len];exact(List.getElem?_eq_some_iff.mp hjy).1
  have hil:i<ρ.length:=(List.getElem?_eq_some_iff.mp hd).1;refine⟨_,_,_,_,.ok ds,re.demL hd f1 f2 f3 f4 f5,by unfold fB eVar;rw[getElem?_set_self hil];rfl,?_⟩
  intro J Hs1 H1 g1 w;refine⟨λk mm σ2 H2=>(mm=ds.length - k/\k<=ds.length/\σ2.length=σ.length)/\zl Γ i jy m (.lst ds) ge a (.lst ds) out ds B0 B1 Hs H Hs1 (bW Hs a ho) H k σ2 H2,⟨_,⟨rfl,zero_le _,rfl⟩,Hs1,ρ,.refl _,g1,re,hd,f1,eo⟩,?_⟩
  rintro k mm σ2 H2 ⟨⟨rfl,hk,hl⟩,Hs2,ρ2,sm2,g2,re2,hd2,ea2,ef⟩
  by_cases hlt:k<ds.length
  ·refine .inr ⟨w.go k Hs2 H2 hlt sm2 g2.i,λσ' H'=>σ'.length=σ.length/\zl Γ i jy m (.lst ds) ge a (.lst ds) out ds B0 B1 Hs H Hs1 (bW Hs a ho) H (k+1) σ' H',λσ' H' z=>⟨_,by omega,⟨rfl,hlt,z.1⟩,z.2⟩,λxv H3 yy=>?_⟩
   obtain⟨d,Hs3,ed,g3,rp⟩:=w.yld k Hs2 H2 xv H3 hlt sm2 g2.i yy;have hdr:ds.drop k=d::ds.drop (k+1):=by
    rw[List.drop_eq_getElem_cons hlt];congr 1;rw[getElem?_eq_getElem hlt] at ed;exact Option.some.inj ed
   rw[hdr] at ef;unfold jK at ef;split at ef
   ·rename_i v hv;have z:scal d=true/\scal v=true:=Classical.byContradiction λz=>by rw[if_neg z] at ef;cases ef
    rw[if_pos z] at ef;obtain⟨s1,s2⟩:=z;have re3:=re2.setSh (by rw[hl];exact hyl) (lW (H':=Hs) s1 rp)
    have hd3:(ρ2.set jy (some (.sh d)))[i]?=some (some (.own (.lst ds))):=by rw[getElem?_set_ne hij];exact hd2
    have ea3:(σ2.set jy (some xv))[i]?=some (some (.ref a)):=by rw[getElem?_set_ne hij];exact ea2
    have g23:=g2.trans g3;refine⟨_,_,Hs3,_,_,(re3.demL hd3 ea3 f2 f3 f4 f5).grow g23,hv,λxw Hs4 H4 g4 rs=>?_⟩;exact⟨by rw[length_set,length_set,hl],Hs4,_,(sm2.trans g3.s).trans g4.s,g23.trans g4,re3.setSh (by rw[length_set,hl];exact hml) (lW (H':=Hs) s2 rs),by rw[getElem?_set_ne him];exact hd3,by rw[getElem?_set_ne him];exact ea3,ef⟩
   ·cases ef
  ·obtain rfl:k=ds.length:=by omega
   rw[drop_length] at ef;cases ef;exact .inl ⟨w.stop Hs2 H2 sm2 g2.i,q _ _ _ (.refl _) (re2.grow (.only re.b.i g2.h))⟩
end
end L3
namespace L3
open PySem
section
variable{ρ ρ' ρ1:aA}{a b c:ME}{x y:MC}{o:Option kh}{s t:S}{r:Option R}
theorem dE(h:x ρ=some (.ret s)):aC x y ρ=some (.ret s):=by unfold aC;rw[h]
theorem a8(h:x ρ=some (.next ρ'))(h2:y ρ'=o):aC x y ρ=o:=by unfold aC;rw[h];exact h2
theorem gT{u v:MC}(h:c ρ=okB true)(h2:u ρ=o):sIf c u v ρ=o:=by unfold sIf;rw[h];exact h2
theorem b6{u v:MC}(h:c ρ=okB false)(h2:v ρ=o):sIf c u v ρ=o:=by unfold sIf;rw[h];exact h2
theorem aM{i:Nat}(h:a ρ=some (.ok s)):sSet i a ρ=some (.next (ρ.set i (some s))):=by unfold sSet;rw[h];rfl
theorem bX(h:a ρ=some (.ok s)):dq a ρ=some (.ret s):=by unfold dq;rw[h];rfl
theorem aN{i:Nat}(h:x (dem i ρ)=o):cC i x ρ=o:=h
theorem dD{i:Nat}{ds:List D}(h0:ρ[i]?=some (some (.own (.lst ds))))(h:a ρ=some (.ok s))(hl:ds.length<lim):cH i a ρ=some (.next (ρ.set i (some (.own (.lst (ds++[s.val])))))):=by
 unfold cH x5;rw[h0];dsimp only;rw[h];dsimp only[h7];rw[if_pos hl]
theorem nI{it:MI}{bd:MB}{body:MC}{ds:List D}(h:it ρ=some (.ok ds))(h2:iP bd body ds ρ=o):lV it bd body ρ=o:=by unfold lV;rw[h];exact h2
theorem bq{np n:Nat}{g:MC}{ds:List D}(hl:ds.length=np)(h:g (eM n ds)=some (.ret s)):kH np n g ds=some (.ok s):=by unfold kH;rw[if_pos hl,h];rfl
theorem ab{f:D->D->Option R}(h1:a ρ=some (.ok s))(h2:b ρ=some (.ok t))(h3:f s.val t.val=r):eBin f a b ρ=r:=by unfold eBin;rw[h1];dsimp only[aQ];rw[h2];exact h3
theorem zr{f:D->Option R}(h1:a ρ=some (.ok s))(h3:f s.val=r):dH f a ρ=r:=by unfold dH;rw[h1];exact h3
theorem jR(h:a ρ=okB true)(h2:b ρ=r):gp a b ρ=r:=by unfold gp;rw[h];exact h2
theorem zf(h:a ρ=okB false):gp a b ρ=okB false:=by unfold gp;rw[h];rfl
theorem Ji(h:a ρ=okB true):kJ a b ρ=okB true:=by unfold kJ;rw[h];rfl
theorem nU(h:a ρ=okB false)(h2:b ρ=r):kJ a b ρ=r:=by unfold kJ;rw[h];exact h2
theorem EO{z:Bool}(h:a ρ=okB z):pD a ρ=okB (!z):=by unfold pD dH;rw[h];rfl
theorem yz(h:a ρ=okB true):pD a ρ=okB false:=EO h
theorem HJ(h:a ρ=okB false):pD a ρ=okB true:=EO h
theorem cI{F:List D->Option R}{e1:ME}{s1:S}(h1:e1 ρ=some (.ok s1))(h:F [s1.val]=r):au F [e1] ρ=r:=by unfold au cZ;rw[h1];exact h
theorem gZ{F:List D->Option R}{e1 e2:ME}{s1 s2:S}(h1:e1 ρ=some (.ok s1))(h2:e2 ρ=some (.ok s2))(h:F [s1.val,s2.val]=r):au F [e1,e2] ρ=r:=by
 unfold au cZ;rw[h1];dsimp only[aQ];unfold cZ;rw[h2];exact h
theorem dC{F:List D->Option R}{e1 e2 e3:ME}{s1 s2 s3:S}(h1:e1 ρ=some (.ok s1))(h2:e2 ρ=some (.ok s2))(h3:e3 ρ=some (.ok s3))(h:F [s1.val,s2.val,s3.val]=r):au F [e1,e2,e3] ρ=r:=by
 unfold au cZ;rw[h1];dsimp only[aQ];unfold cZ;rw[h2];dsimp only[aQ];unfold cZ;rw[h3];exact h
theorem oB{e1 e2:ME}{s1 s2:S}(h1:e1 ρ=some (.ok s1))(h2:e2 ρ=some (.ok s2)):gn [e1,e2] ρ=okD (.tup [s1.val,s2.val]):=gZ h1 h2 rfl
theorem iy{e1:ME}{s1:S}{n:Int}(h1:e1 ρ=some (.ok s1))(h:cm s1.val=okI n):aJ (f1 cm) [e1] ρ=okI n:=by
 have:cZ [e1] ρ (f1 cm)=okI n:=cI (F:=f1 cm) h1 h;unfold aJ;rw[this];rfl
theorem ye{i:Nat}{d:D}(h:ρ[i]?=some (some (.sh d))):eVar i ρ=okD d:=by unfold eVar;rw[h]
theorem iU{i:Nat}(h:ρ[i]?=some (some s))(hn:s.nd=true:=by rfl):eH i ρ=okD s.val:=by
 unfold eH;rw[h];cases s with
 |sh d=>rfl
 |own o=>cases o with
  |lst _=>rfl
  |obj _ _ _=>rfl
  |dic _=>cases hn
  |par _ _=>cases hn
  |fdic _=>cases hn
  |tab _=>cases hn
  |tre _=>cases hn
  |dik _=>rfl
 |_=>cases hn
theorem iz{ds:List D}(h:a ρ=some (.ok s))(hi:tw s.val=some ds):fB a ρ=some (.ok ds):=by unfold fB;rw[h];dsimp only;rw[hi];rfl
theorem Bk{i:Int}(h:a ρ=okI i)(hr:r9 i=true):b7 a ρ=some (.ok (rng 0 i)):=by unfold b7 mn;rw[h];dsimp only[S.val];rw[if_pos hr]
theorem add_int(i j:Int):dAdd (.int i) (.int j)=okI (i+j):=rfl
theorem sub_int(i j:Int):Ek (.int i) (.int j)=okI (i - j):=rfl
theorem mul_int{i j:Int}(h:(ir i || ir j)=true):dMul (.int i) (.int j)=okI (i * j):=by unfold dMul;exact if_pos h
theorem jZ{i j:Int}(h:0<j):lI (.int i) (.int j)=okI (i % j):=by unfold lI;exact if_pos h
theorem uG{i:Int}(h1:-(2 ^ 60)<=i)(h2:i<=2 ^ 60):ir i=true:=by unfold ir;simp;omega
theorem HN{i j:Int}(h1:-(2 ^ 60)<=i)(h2:i<=2 ^ 60):dMul (.int i) (.int j)=okI (i * j):=mul_int (by rw[uG h1 h2];rfl)
theorem HM{i j:Int}(h1:-(2 ^ 60)<=j)(h2:j<=2 ^ 60):dMul (.int i) (.int j)=okI (i * j):=mul_int (by rw[uG h1 h2,Bool.or_true])
theorem ix_tup{ds:List D}{d:D}{n:Nat}(h:ds[n]?=some d):dj (.tup ds) (.int n)=okD d:=by
 have hn:n<ds.length:=(List.getElem?_eq_some_iff.mp h).1;show(rJ ds (n:Int)).bind okD=_;unfold rJ AF;rw[if_pos (by omega),if_pos (by omega)]
 simp[h]
theorem lC{ds:List D}{d:D}{n:Nat}(h:ds[n]?=some d):dj (.lst ds) (.int n)=okD d:=ix_tup h
theorem Jb(n:Nat):rng 0 n=(List.range n).map λk:Nat=>D.int k:=by
 unfold rng;rw[Int.sub_zero,toNat_natCast];exact List.map_congr_left λk _=>by rw[Int.zero_add]
theorem A6{n:Nat}(h:n<=1000000):r9 (n:Int)=true:=by unfold r9;simp;omega
theorem vS{bd:MB}{body:MC}(Iv:Nat->aA->Prop):∀(ds:List D)(i:Nat)(ρ:aA),Iv i ρ->(∀(k:Nat)(ρ:aA)(d:D),ds[k]?=some d->Iv (i+k) ρ->∃ρ1 ρ2,bd d ρ=some ρ1/\body ρ1=some (.next ρ2)/\Iv (i+k+1) ρ2)->
  ∃ρ',iP bd body ds ρ=some (.next ρ')/\Iv (i+ds.length) ρ'
 |[],i,ρ,h,_=>⟨ρ,rfl,h⟩
 |d::ds,i,ρ,h,hs=>by
  obtain⟨ρ1,ρ2,e1,e2,h2⟩:=hs 0 ρ d rfl h;obtain⟨ρ',e3,h3⟩:=vS Iv ds (i+1) ρ2 h2 λk ρ d' e hk=>by
   obtain⟨r1,r2,f1,f2,f3⟩:=hs (k+1) ρ d' (by simpa using e) (by rw[show i+(k+1)=i+1+k by omega];exact hk)
   exact⟨r1,r2,f1,f2,by rw[show i+1+k+1=i+(k+1)+1 by omega];exact f3⟩
  refine⟨ρ',?_,by rw[length_cons,show i+(ds.length+1)=i+1+ds.length by omega];exact h3⟩
  unfold iP;rw[e1];dsimp only;rw[e2];exact e3
theorem rq{bd:MB}{cond elt:ME}{f:D->D}:∀(ds acc:List D),(∀d∈ds,∃ρ1 s,bd d ρ=some ρ1/\cond ρ1=okB true/\elt ρ1=some (.ok s)/\s.val=f d)->acc.length+ds.length<=lim->eZ bd cond elt ρ ds acc=okL (acc++ds.map f)
 |[],acc,_,hl=>by
  unfold eZ;rw[if_pos (by simpa using hl)]
  simp
 |d::ds,acc,h,hl=>by
  obtain⟨ρ1,s,e1,e2,e3,e4⟩:=h d mem_cons_self;unfold eZ;rw[e1];dsimp only;rw[e2];show(aQ (elt ρ1) λx=>eZ bd cond elt ρ ds (acc++[x]))=_;rw[e3];show eZ bd cond elt ρ ds (acc++[s.val])=_;rw[e4,rq ds (acc++[f d]) (λd' hd=>h d' (mem_cons_of_mem _ hd)) (by rw[length_append,length_singleton];rw[length_cons] at hl;omega)]
  simp
theorem Gy{js:List Nat}{it:MI}{bd:MB}{cond elt:ME}{ds:List D}(f:D->D)(hi:it ρ=some (.ok ds))(hl:ds.length<=lim)(h:∀d∈ds,∃ρ1 s,bd d (dO js ρ)=some ρ1/\cond ρ1=okB true/\elt ρ1=some (.ok s)/\s.val=f d):b3 js it bd cond elt ρ=okL (ds.map f):=by
 unfold b3;rw[hi];dsimp only;rw[if_pos hl,rq ds [] h (by simpa using hl)]
 rfl
end
theorem vI(ns:List Int):intsOf (ns.map D.int)=some ns:=by
 induction ns with
 |nil=>rfl
 |cons n ns ih=>rw[map_cons];unfold intsOf;rw[ih];rfl
inductive hJ:Nat->D->Prop
 |non (n):hJ n .non
 |bl (n b):hJ n (.bl b)
 |int (n i):hJ n (.int i)
 |str (n x):hJ n (.str x)
 |tup (n ds):(∀d∈ds,hJ n d)->ds.length<=lim->hJ (n+1) (.tup ds)
 |lst (n ds):(∀d∈ds,hJ n d)->ds.length<=lim->hJ (n+1) (.lst ds)
theorem hJ.mono:∀{n m:Nat}{d:D},hJ n d->n<=m->hJ m d:=by
 intro n m d h
 induction h generalizing m with
 |non n=>exact λ_=>.non m
 |bl n b=>exact λ_=>.bl m b
 |int n i=>exact λ_=>.int m i
 |str n x=>exact λ_=>.str m x
 |tup n ds hd hl ih=>
  intro hm;obtain⟨k,rfl⟩:∃k,m=k+1:=⟨m - 1,by omega⟩
  exact .tup k ds (λd hd=>ih d hd (by omega)) hl
 |lst n ds hd hl ih=>
  intro hm;obtain⟨k,rfl⟩:∃k,m=k+1:=⟨m - 1,by omega⟩
  exact .lst k ds (λd hd=>ih d hd (by omega)) hl
theorem y0(ds:List D):blsOf (ds.map λ_=>D.bl true)=some (ds.map λ_=>true):=by
 induction ds with
 |nil=>rfl
 |cons d ds ih=>rw[map_cons,map_cons];unfold blsOf;rw[ih];rfl
theorem ud(ds:List D):zipWith (λu v=>D.tup [u,v]) ds ds=ds.map λd=>D.tup [d,d]:=by
 induction ds with
 |nil=>rfl
 |cons d ds ih=>rw[List.zipWith_cons_cons,map_cons,ih]
theorem jM(i:Int):dEq (.int i) (.int i)=okB true:=by unfold dEq Cv;simp
theorem jL(i:Str):dEq (.str i) (.str i)=okB true:=by unfold dEq Cv;simp
section
variable{ρ ρ' ρ1:aA}{a b c:ME}
theorem pH{α:Type}{bd:MB}{cond elt:ME}{g:α->D}{f:α->D}{p:α->Bool}:∀(xs:List α)(acc:List D),(∀x∈xs,∃ρ1,bd (g x) ρ=some ρ1/\cond ρ1=okB (p x)/\(p x=true->∃s,elt ρ1=some (.ok s)/\s.val=f x))->acc.length+xs.length<=lim->eZ bd cond elt ρ (xs.map g) acc=okL (acc++(xs.filter p).map f)
 |[],acc,_,hl=>by
  rw[map_nil];unfold eZ;rw[if_pos (by simpa using hl)]
  simp
 |x::xs,acc,h,hl=>by
  obtain⟨ρ1,e1,e2,e3⟩:=h x mem_cons_self;rw[map_cons];unfold eZ;rw[e1];dsimp only;rw[e2];show(if p x=true then(aQ (elt ρ1) λy=>eZ bd cond elt ρ (xs.map g) (acc++[y])) else eZ bd cond elt ρ (xs.map g) acc)=_;rw[length_cons] at hl;by_cases hp:p x=true
  ·obtain⟨s,e4,e5⟩:=e3 hp;rw[if_pos hp,e4];show eZ bd cond elt ρ (xs.map g) (acc++[s.val])=_;rw[e5,pH xs (acc++[f x]) (λy hy=>h y (mem_cons_of_mem _ hy)) (by rw[length_append,length_singleton];omega)]
   simp[hp]
  ·rw[if_neg hp,pH xs acc (λy hy=>h y (mem_cons_of_mem _ hy)) (by omega)]
   simp[hp]
theorem yX{α:Type}{js:List Nat}{it:MI}{bd:MB}{cond elt:ME}(xs:List α)(g:α->D)(p:α->Bool)(f:α->D)(hi:it ρ=some (.ok (xs.map g)))(hl:xs.length<=lim)
  (h:∀x∈xs,∃ρ1,bd (g x) (dO js ρ)=some ρ1/\cond ρ1=okB (p x)/\(p x=true->∃s,elt ρ1=some (.ok s)/\s.val=f x)):b3 js it bd cond elt ρ=okL ((xs.filter p).map f):=by
 unfold b3;rw[hi];dsimp only;rw[if_pos (by rw[length_map];exact hl),pH xs [] h (by simpa using hl)]
 rfl
theorem bR{α:Type}{js:List Nat}{it:MI}{bd:MB}{elt:ME}(xs:List α)(g:α->D)(f:α->D)(hi:it ρ=some (.ok (xs.map g)))(hl:xs.length<=lim)
  (h:∀x∈xs,∃ρ1,bd (g x) (dO js ρ)=some ρ1/\∃s,elt ρ1=some (.ok s)/\s.val=f x):b3 js it bd bf elt ρ=okL (xs.map f):=by
 rw[yX xs g (λ_=>true) f hi hl λx hx=>?_]
 ·rw[List.filter_eq_self.mpr (λ_ _=>rfl)]
 ·obtain⟨ρ1,e1,e2⟩:=h x hx;exact⟨ρ1,e1,rfl,λ_=>e2⟩
theorem yi{i j:Int}(h0:0<=j)(h1:j<=1000000)(h2:i.natAbs<2 ^ 64):xQ (.int i) (.int j)=okI (i * 2 ^ j.toNat):=by unfold xQ;exact if_pos ⟨h0,h1,h2⟩
theorem tY(i j:Nat):nW (.int i) (.int j)=okI ((i ||| j:Nat):Int):=by
 show(if 0<=(i:Int)/\0<=(j:Int) then okI (((i:Int).toNat ||| (j:Int).toNat:Nat):Int) else none)=_;rw[if_pos (by omega),toNat_natCast,toNat_natCast]
theorem mB{f g:D->D->Option R}{s t u:S}{r:Option R}(h1:a ρ=some (.ok s))(h2:b ρ=some (.ok t))(h3:f s.val t.val=okB true)(h4:c ρ=some (.ok u))(h5:g t.val u.val=r):gW f g a b c ρ=r:=by
 unfold gW;rw[h1];dsimp only[aQ];rw[h2];dsimp only[aQ];rw[h3];dsimp only[asB,S.val];rw[if_pos rfl,h4];exact h5
theorem z0{f g:D->D->Option R}{s t:S}(h1:a ρ=some (.ok s))(h2:b ρ=some (.ok t))(h3:f s.val t.val=okB false):gW f g a b c ρ=okB false:=by
 unfold gW;rw[h1];dsimp only[aQ];rw[h2];dsimp only[aQ];rw[h3];rfl
theorem HS(i j:Int):AH (.int i) (.int j)=okB (decide (i<=j)):=rfl
theorem Jl(i j:Int):CQ (.int i) (.int j)=okB (decide (i<j)):=rfl
theorem Gq(i j:Int):Eo (.int i) (.int j)=okB (decide (j<i)):=rfl
theorem Gu(i j:Int):dEq (.int i) (.int j)=okB (decide (i=j)):=rfl
theorem HK(i j:Int):qx (.int i) (.int j)=okB (!decide (i=j)):=rfl
theorem vG{i j:Int}(h:i<=j):AH (.int i) (.int j)=okB true:=by rw[HS,decide_eq_true h]
theorem DS{i j:Int}(h:¬i<=j):AH (.int i) (.int j)=okB false:=by rw[HS,decide_eq_false h]
theorem Js{i j:Int}(h:j<i):Eo (.int i) (.int j)=okB true:=by rw[Gq,decide_eq_true h]
theorem Jt{i j:Int}(h:¬j<i):Eo (.int i) (.int j)=okB false:=by rw[Gq,decide_eq_false h]
theorem Ee{i j:Int}(h:i=j):dEq (.int i) (.int j)=okB true:=by rw[Gu,decide_eq_true h]
theorem nc{i j:Int}(h:¬i=j):dEq (.int i) (.int j)=okB false:=by rw[Gu,decide_eq_false h]
theorem Jk{i j:Int}(h:¬i=j):qx (.int i) (.int j)=okB true:=by rw[HK,decide_eq_false h];rfl
theorem G1{i j:Int}(h:i=j):qx (.int i) (.int j)=okB false:=by rw[HK,decide_eq_true h];rfl
theorem Ih{F:List D->Option R}{e1 e2 e3 e4:ME}{s1 s2 s3 s4:S}{r:Option R}(h1:e1 ρ=some (.ok s1))(h2:e2 ρ=some (.ok s2))(h3:e3 ρ=some (.ok s3))(h4:e4 ρ=some (.ok s4))(h:F [s1.val,s2.val,s3.val,s4.val]=r):au F [e1,e2,e3,e4] ρ=r:=by
 unfold au cZ;rw[h1];dsimp only[aQ];unfold cZ;rw[h2];dsimp only[aQ];unfold cZ;rw[h3];dsimp only[aQ];unfold cZ;rw[h4];exact h
theorem EU{d:D}{ds:List D}:dj (.lst (d::ds)) (.int 0)=okD d:=lC (n:=0) rfl
theorem C6{d e:D}{ds:List D}:dj (.lst (d::e::ds)) (.int 1)=okD e:=lC (n:=1) rfl
theorem ET{d e f:D}{ds:List D}:dj (.lst (d::e::f::ds)) (.int 2)=okD f:=lC (n:=2) rfl
theorem pf{d:D}{ds:List D}:dj (.tup (d::ds)) (.int 0)=okD d:=ix_tup (n:=0) rfl
theorem yJ{d e:D}{ds:List D}:dj (.tup (d::e::ds)) (.int 1)=okD e:=ix_tup (n:=1) rfl
theorem mr{bd:MB}{body:MC}(g:Nat->D)(Iv:Nat->aA->Prop)(n:Nat){ρ:aA}(h0:Iv 0 ρ)(hs:∀(k:Nat)(ρ:aA),k<n->Iv k ρ->∃ρ1 ρ2,bd (g k) ρ=some ρ1/\body ρ1=some (.next ρ2)/\Iv (k+1) ρ2):
  ∃ρ',iP bd body ((List.range n).map g) ρ=some (.next ρ')/\Iv n ρ':=by
 obtain⟨ρ',e,h⟩:=vS (bd:=bd) (body:=body) Iv ((List.range n).map g) 0 ρ h0 λk ρ d e hk=>by
  rw[getElem?_map] at e;have hk':k<n:=by
   by_cases z:k<n
   ·exact z
   ·rw[getElem?_eq_none (by rw[length_range];omega)] at e;cases e
  rw[getElem?_range hk'] at e;cases e;rw[Nat.zero_add] at hk ⊢;exact hs k ρ hk' hk
 rw[Nat.zero_add,length_map,length_range] at h;exact⟨ρ',e,h⟩
theorem rf{α:Type}{bd:MB}{body:MC}(g:α->D)(Iv:List α->aA->Prop):∀(xs pre:List α)(ρ:aA),Iv pre ρ->(∀(q:List α)(x:α)(post:List α)(ρ:aA),pre++xs=q++x::post->Iv q ρ->∃ρ1 ρ2,bd (g x) ρ=some ρ1/\(body ρ1=some (.next ρ2)\/body ρ1=some (.cont ρ2))/\Iv (q++[x]) ρ2)->
  ∃ρ',iP bd body (xs.map g) ρ=some (.next ρ')/\Iv (pre++xs) ρ'
 |[],pre,ρ,h,_=>⟨ρ,rfl,by simpa using h⟩
 |x::xs,pre,ρ,h,hs=>by
  obtain⟨ρ1,ρ2,e1,e2,h2⟩:=hs pre x xs ρ rfl h;obtain⟨ρ',e3,h3⟩:=rf g Iv xs (pre++[x]) ρ2 h2 λq y post ρ hy hi=>hs q y post ρ (by rw[<-hy];simp) hi
  refine⟨ρ',?_,by simpa using h3⟩
  rw[map_cons];unfold iP;rw[e1];dsimp only;rcases e2 with e2|e2 <;> rw[e2] <;> exact e3
theorem Ck{α:Type}{bd:MB}{body:MC}(g:α->D)(Iv:List α->aA->Prop)(xs:List α){ρ:aA}(h0:Iv [] ρ)(hs:∀(q:List α)(x:α)(post:List α)(ρ:aA),xs=q++x::post->Iv q ρ->∃ρ1 ρ2,bd (g x) ρ=some ρ1/\(body ρ1=some (.next ρ2)\/body ρ1=some (.cont ρ2))/\Iv (q++[x]) ρ2):
  ∃ρ',iP bd body (xs.map g) ρ=some (.next ρ')/\Iv xs ρ':=by
 have:=rf (bd:=bd) (body:=body) g Iv xs [] ρ h0 (by simpa using hs)
 simpa using this
end
section
variable{ρ:aA}{a b e1 e2 e3 e4:ME}{s s1 s2 s3 s4:S}{o o1:O}{r:Option O}{q:Option R}{F:F3}{c:Vg}{f m:Str}{ns:List Str}{ds:List D}{cs:List Vg}
theorem G4{tb:Vg->Option (List D->Option R)}{as:List ME}{G:List D->Option R}(ho:a ρ=some (.ok s))(hv:s.val=.obj c ns ds)(hn:ns.contains m=false)(ht:tb c=some G):eF m tb a as ρ=cZ as ρ λvs=>G (.obj c ns ds::vs):=by
 unfold eF;rw[ho];dsimp only[aQ];rw[hv];dsimp only;rw[hn,if_neg Bool.false_ne_true,ht]
theorem yC{tb:Vg->Option (List D->Option R)}{G:List D->Option R}(ho:a ρ=some (.ok s))(hv:s.val=.obj c ns ds)(hn:ns.contains m=false)(ht:tb c=some G)(h:G [.obj c ns ds]=q):eF m tb a [] ρ=q:=by rw[G4 ho hv hn ht];exact h
theorem yN(h:a ρ=okB true)(h2:e1 ρ=q):Cw a e1 e2 ρ=q:=by unfold Cw;rw[h];exact h2
theorem vL(h:a ρ=okB false)(h2:e2 ρ=q):Cw a e1 e2 ρ=q:=by unfold Cw;rw[h];exact h2
theorem zD{i j:Nat}{k:Nat}(h1:e1 ρ=some (.ok s))(h0:ρ[i]?=some (some (.own (.lst ds))))(h2:e2 ρ=okI k)(hk:k<ds.length):lU i e2 e1 ρ=some (.next (ρ.set i (some (.own (.lst (ds.set k s.val)))))):=by
 unfold lU x5;rw[h1];dsimp only[h7];rw[h0];dsimp only;rw[h2];dsimp only[S.val];have:AF ds.length (k:Int)=some k:=by unfold AF;rw[if_pos (by omega),if_pos (by omega),toNat_natCast]
 rw[this]
theorem mC{xs ys:List D}(h:xs.length+ys.length<=100000):dAdd (.lst xs) (.lst ys)=okL (xs++ys):=by
 show(if xs.length+ys.length<=lim then okL (xs++ys) else none)=_;rw[if_pos (le_trans h (by decide))]
theorem Eu{G:List D->Option R}{as:List ME}{d:D}(h:cZ as ρ G=okD d)(hf:flat d=true):aJ G as ρ=okD d:=by
 unfold aJ;rw[h];show(if flat d=true then okD d else none)=_;rw[if_pos hf]
theorem oo{x y:Str}(h:x=y):dEq (.str x) (.str y)=okB true:=by subst h;exact jL x
theorem j9{x y:Str}(h:x≠y):dEq (.str x) (.str y)=okB false:=by unfold dEq Cv;simp[h]
end
end L3
namespace Bell
open PySem L3
noncomputable section
def sg:MC:=(dq (eBin lI (eBin lI (eBin dAdd (eBin dMul (eVar 3) (eC (.int 48271))) (eBin dMul (eBin dMul (eBin dAdd (eVar 1) (eC (.int 1))) (eBin dAdd (eVar 1) (eC (.int 5)))) (eC (.int 69621)))) (eC (.int 2147483629))) (eVar 2)))
def si:MC:=(aC (sIf (eBin Eo (aJ (f1 cm) [(eH 0)]) (eC (.int 0))) (sSet 3 (eBin lI (eBin dj (eVar 0) (eBin lI (eVar 1) (aJ (f1 cm) [(eH 0)]))) (eC (.int 2147483647)))) bp) sg)
def xt:MC:=
 (aC (sSet 3 (eC (.int 0))) si)
def ax:List D->Option R:=kH 3 4 xt
def je:MC:=(cC 10 (cH 6 (dB dh (eC (.str "")) (eVar 10))))
def gq:MC:=(aC (lU 10 (eVar 8) (eBin dj (eVar 3) (eBin lI (eBin dAdd (au ax [(eVar 0),(eBin dAdd (eVar 1) (eC (.int 11))),(eC (.int 26))]) (eBin dMul (eC (.int 3)) (eVar 9))) (eC (.int 26))))) je)
def fI:MC:=(cC 4 (aC (sSet 10 (dt (eVar 4) none (some (eVar 7)))) gq))
def q0:MC:=(cC 6 (dq (eVar 6)))
def q8:MC:=(aC (sIf (eBin dEq (eVar 5) (eC (.int 3))) (aC (sSet 6 (du [])) (aC (sSet 7 (eBin dAdd (eC (.int 1)) (au ax [(eVar 0),(eBin dAdd (eVar 1) (eC (.int 9))),(eC (.int 8))]))) (aC (sSet 8 (au ax [(eVar 0),(eBin dAdd (eVar 1) (eC (.int 10))),(eVar 7)])) (lV (b7 (eVar 2)) (aY 9) fI)))) bp) q0)
def qc:MC:=(aC (sIf (eBin dEq (eVar 5) (eC (.int 2))) (cC 4 (sSet 6 (b3 [9] (b7 (eVar 2)) (aY 9) bf (dB dh (eC (.str "")) (dt (eVar 4) (some (eBin Ek (eC (.int 7)) (eVar 9))) none))))) bp) q8)
def kB:MC:=(aC (sIf (eBin dEq (eVar 5) (eC (.int 1))) (cC 4 (sSet 6 (b3 [9] (b7 (eVar 2)) (aY 9) bf (dB dh (eC (.str "")) (dt (eVar 4) none (some (eBin dAdd (eVar 9) (eC (.int 1))))))))) bp) qc)
def qd:MC:=(aC (sSet 6 (dt (du [(eC (.str "row")),(eC (.str "open")),(eC (.str "here")),(eC (.str "main")),(eC (.str "is")),(eC (.str "box")),(eC (.str "plus")),(eC (.str "by"))]) none (some (eVar 2)))) kB)
def qe:MC:=(aC (sSet 5 (au ax [(eVar 0),(eBin dAdd (eVar 1) (eC (.int 8))),(eC (.int 4))])) qd)
def qg:MC:=(aC (sSet 4 (b3 [9] (b7 (eC (.int 8))) (aY 9) bf (eBin dj (eVar 3) (au ax [(eVar 0),(eBin dAdd (eVar 1) (eVar 9)),(eC (.int 26))])))) qe)
def vy:MC:=
 (aC (sSet 3 (eC (.str "abcdefghijklmnopqrstuvwxyz"))) qg)
def fV:List D->Option R:=kH 3 11 vy
def mG:MC:=(sSet 4 (eBin nW (eVar 4) (eBin xQ (eC (.int 2)) (eVar 5))))
def rV:MC:=(cC 3 (dq (gn [(eBin dAdd (eC (.str "shut ")) (dB dh (eC (.str " ")) (b3 [5] (fB (eVar 3)) (aY 5) bf (eBin dj (eVar 2) (eVar 5))))),(eVar 4)])))
def rW:MC:=(cC 3 (aC (lV (fB (eVar 3)) (aY 5) mG) rV))
def rX:MC:=(aC (sSet 4 (eC (.int 0))) rW)
def xr:MC:=
 (aC (sSet 3 (b3 [5] (b7 (eBin dAdd (eC (.int 1)) (au ax [(eVar 0),(eBin dAdd (eVar 1) (eC (.int 3))),(eC (.int 3))]))) (aY 5) bf (au ax [(eVar 0),(eBin dAdd (eVar 1) (eVar 5)),(aJ (f1 cm) [(eH 2)])]))) rX)
def j8:List D->Option R:=kH 3 6 xr
def kM:MC:=(sIf (gp (eBin (dIn false) (eVar 10) (gn [(eC (.int 3)),(eC (.int 4))])) (eBin CQ (aJ (f1 cm) [(eH 5)]) (eC (.int 11)))) (aC (sSet 12 (eBin dAdd (eC (.int 1)) (au ax [(eVar 0),(eBin dAdd (eVar 9) (eC (.int 1))),(eC (.int 9))]))) (aC (cH 4 (eBin dAdd (eC (.str "still ")) (au (f1 pF) [(eVar 12)]))) (aC (sSet 13 (eC (.int 0))) (aC (oJ 6 14 13 (eBin nW (eVar 13) (eVar 14))) (cH 5 (gn [(gn [(eC (.str "still")),(eVar 12)]),(eVar 13)])))))) bp)
def kN:MC:=(aC (sIf (gp (eBin dEq (eVar 10) (eC (.int 5))) (eBin Eo (aJ (f1 cm) [(eH 6)]) (eC (.int 0)))) (aC (Ho 6) (cH 4 (eC (.str "open")))) bp) kM)
def kO:MC:=(aC (sIf (gp (eBin CQ (eVar 10) (eBin dAdd (eC (.int 1)) (eVar 3))) (eBin CQ (aJ (f1 cm) [(eH 6)]) (eC (.int 12)))) (aC (sSet 11 (au j8 [(eVar 0),(eBin dAdd (eVar 9) (eC (.int 1))),(eVar 2)])) (aC (cH 4 (eBin dj (eVar 11) (eC (.int 0)))) (cH 6 (eBin dj (eVar 11) (eC (.int 1)))))) bp) kN)
def qA:MC:=(aC (sSet 10 (au ax [(eVar 0),(eVar 9),(eC (.int 6))])) kO)
def ip:MC:=(aC (sSet 9 (eBin dAdd (eBin dAdd (eVar 1) (eC (.int 1))) (eBin dMul (eC (.int 6)) (eVar 7)))) qA)
def uw:MC:=(cC 5 (cC 4 (dq (gn [(eVar 4),(au (f1 jO) [(eVar 5)])]))))
def ny:MC:=(aC (sIf (eBin CQ (eVar 8) (eC (.int 2))) (cC 4 (aC (sSet 4 (eBin dAdd (eVar 4) (b3 [7] (b7 (eBin dAdd (eVar 8) (eC (.int 1)))) (aY 7) bf (eBin dAdd (eC (.str "shut ")) (eBin dj (eVar 2) (eBin lI (eVar 8) (aJ (f1 cm) [(eH 2)]))))))) (cC 4 (sSet 4 (eBin dAdd (eVar 4) (b3 [7] (b7 (eBin dAdd (eVar 8) (eC (.int 1)))) (aY 7) bf (eC (.str "open")))))))) bp) uw)
def nz:MC:=(aC (sSet 8 (au ax [(eVar 0),(eBin dAdd (eVar 1) (eC (.int 127))),(eC (.int 6))])) ny)
def ux:MC:=(aC (cH 5 (gn [(gn [(eC (.str "still")),(eC (.int 9))]),(eC (.int 0))])) nz)
def uy:MC:=(cC 6 (cC 4 (aC (sSet 4 (eBin dAdd (eBin dAdd (eVar 4) (b3 [14] (fB (eVar 6)) (aY 14) bf (eC (.str "open")))) (du [(eC (.str "still 9"))]))) ux)))
def uz:MC:=(aC (lV (b7 (au ax [(eVar 0),(eVar 1),(eC (.int 21))])) (aY 7) ip) uy)
def uA:MC:=(aC (sSet 6 (du [])) uz)
def uB:MC:=(aC (sSet 5 (du [])) uA)
def A1:MC:=
 (aC (sSet 4 (du [])) uB)
def iQ:List D->Option R:=kH 4 15 A1
def rY(G:List D->Option R):MC:=(dq (gp (dH (kz "str") (eVar 0)) (eBin dEq (eVar 0) (eVar 1))))
def rZ(G:List D->Option R):MC:=(aC (sIf (dH Af (eVar 1)) (dq (dH Af (eVar 0))) bp) (rY G))
def sd(G:List D->Option R):MC:=(aC (sIf (dH (kz "int") (eVar 1)) (dq (gp (dH (kz "int") (eVar 0)) (eBin dEq (eVar 0) (eVar 1)))) bp) (rZ G))
def se(G:List D->Option R):MC:=(aC (sIf (kJ (dH (kz "bool") (eVar 1)) (dH (kz "bool") (eVar 0))) (dq (gp (dH (kz "bool") (eVar 1)) (gp (dH (kz "bool") (eVar 0)) (eBin dEq (eVar 0) (eVar 1))))) bp) (sd G))
def lA(G:List D->Option R):MC:=
 (aC (sIf (kJ (dH (kz "tuple") (eVar 1)) (dH (kz "list") (eVar 1))) (aC (sIf (kJ (eBin qx (dH (kz "tuple") (eVar 0)) (dH (kz "tuple") (eVar 1))) (eBin qx (dH (kz "list") (eVar 0)) (dH (kz "list") (eVar 1)))) (dq (eC (.bl false))) bp) (dq (gp (eBin dEq (aJ (f1 cm) [(eH 0)]) (aJ (f1 cm) [(eH 1)])) (au (f1 Ah) [(b3 [2,3] (DZ (eVar 0) (eVar 1)) (mH [2,3]) bf (au G [(eVar 2),(eVar 3)]))])))) bp) (se G))
def fC:List D->Option R:=Nat.rec (motive:=λ_=>List D->Option R) (λ_=>none) (λ_ G=>kH 2 4 (lA G)) 12
def mX:MC:=
 (dq (kJ (eBin gY (dH (cS ["Reader"] "rows") (eVar 0)) (du [])) (gp (eBin tO (eBin dj (dH (cS ["Reader"] "rows") (eVar 0)) (eC (.int (-1)))) (du [])) (eBin gY (dH (cS ["Reader"] "stretches") (eVar 0)) (du [])))))
def bV:List D->Option R:=kH 1 1 mX
def lB:MC:=
 (dq (eBin dAdd (du [(eC (.str "main"))]) (b3 [1] (fB (dH (cS ["Reader"] "bells") (eVar 0))) (aY 1) bf (eBin dj (eVar 1) (eC (.int 0))))))
def aU:List D->Option R:=kH 1 2 lB
def dJ:Vg->Option (List D->Option R):=(GR ["Reader"] bV ur)
theorem lM:dJ "Reader" = some bV:=rfl
def aL:Vg->Option (List D->Option R):=(GR ["Reader"] aU ur)
theorem ki:aL "Reader" = some aU:=rfl
def mi:MC:=
 (dq (gp (eBin dEq (aJ (f1 cm) [(dH (cS ["Reader"] "rows") (eVar 0))]) (aJ (f1 cm) [(eF "row_names" aL (eVar 0) [])])) (eF "may_end" dJ (eVar 0) [])))
def cz:List D->Option R:=kH 1 1 mi
def nS:MC:=(cC 2 (dq (gn [(au (f1 jO) [(dH (cS ["Reader"] "boxes") (eVar 0))]),(au (f1 jO) [(eVar 2)])])))
def nT:MC:=(cC 1 (aC (sSet 2 (b3 [3,4,5] (Cc (eF "row_names" aL (eVar 0) []) (eVar 1) (dH (cS ["Reader"] "rows") (eVar 0))) (mH [3,4,5]) bf (gn [(eVar 3),(eVar 4),(au (f1 jO) [(eVar 5)])]))) nS))
def qv:MC:=
 (aC (sSet 1 (eBin dAdd (du [(eC (.int 0))]) (b3 [6] (fB (dH (cS ["Reader"] "bells") (eVar 0))) (aY 6) bf (eBin dj (eVar 6) (eC (.int 1)))))) nT)
def dA:List D->Option R:=kH 1 7 qv
def vB:MC:=
 (dq (au (f1 Ah) [(b3 [2] (E1 (eVar 0)) (aY 2) bf (eBin (Em false) (eVar 2) (eVar 1)))]))
def dg:List D->Option R:=kH 2 3 vB
def A2:MC:=
 (dq (gp (gW AH AH (eC (.int 1)) (aJ (f1 cm) [(eH 0)]) (eC (.int (8)))) (au dg [(eVar 0),(eC (.str "abcdefghijklmnopqrstuvwxyz"))])))
def iR:List D->Option R:=kH 1 1 A2
def jr:MC:=(gE 0 (eC (.bl true)))
def jt:MC:=(aC (oK ["Reader"] 0 "bells" (gn [(eBin dj (eVar 1) (eC (.int 1))),(au (f1 nJ) [(eBin dj (eVar 1) (eC (.int 2)))])])) jr)
def ju:MC:=(aC (sIf (cj 0 (kJ (pD (au iR [(eBin dj (eVar 1) (eC (.int 1)))])) (kJ (eBin (dIn false) (eBin dj (eVar 1) (eC (.int 1))) (eF "row_names" aL (eVar 0) [])) (eBin (dIn true) (eBin dj (eVar 1) (eC (.int 2))) (eC (.tup [(.str "1"),(.str "2"),(.str "3"),(.str "4"),(.str "5"),(.str "6"),(.str "7"),(.str "8"),(.str "9")])))))) (gE 0 (eC (.bl false))) bp) jt)
def gR:MC:=
 (aC (sIf (cj 0 (kJ (eBin tO (dH (cS ["Reader"] "rows") (eVar 0)) (du [])) (kJ (eBin dEq (aJ (f1 cm) [(dH (cS ["Reader"] "bells") (eVar 0))]) (eC (.int (6)))) (eBin qx (aJ (f1 cm) [(eH 1)]) (eC (.int 3)))))) (gE 0 (eC (.bl false))) bp) ju)
def cN:MF:=A9 0 2 2 gR
def qj:MC:=(dq (eBin dAdd (gn [(eVar 3)]) (au (f1 jO) [(eVar 2)])))
def qk:MC:=(aC (sSet 3 (Cw (eBin dEq (eBin dj (eVar 0) (eC (.int 0))) (eC (.str "here"))) (eBin dj (eVar 1) (eC (.int 2))) (eBin dj (eVar 0) (eC (.int 0))))) qj)
def vA:MC:=
 (aC (sIf (eBin dEq (eBin dj (eVar 0) (eC (.int 0))) (eC (.str "put"))) kU bp) qk)
def ik:List D->Option R:=kH 3 4 vA
def AZ:MC:=(aC (sIf (eBin dEq (eVar 2) (eC (.str "still"))) (dq (gW AH AH (eC (.int 1)) (eBin dj (eVar 1) (eC (.int 1))) (eC (.int 9)))) bp) kU)
def G7:MC:=
 (aC (sSet 2 (eBin dj (eVar 1) (eC (.int 0)))) AZ)
def tJ:List D->Option R:=kH 2 4 G7
def sj:MC:=(dq (au (f1 Ah) [(b3 [2,3] (Cb (eVar 0) (eVar 1)) (mH [2,3]) (eBin (dIn true) (eVar 2) (gn [(eC (.str "BOX")),(eC (.str "NUMBER"))])) (eBin dEq (eVar 2) (eVar 3)))]))
def xu:MC:=
 (aC (sIf (eBin qx (aJ (f1 cm) [(eH 0)]) (aJ (f1 cm) [(eH 1)])) (dq (eC (.bl false))) bp) sj)
def gU:List D->Option R:=kH 2 4 xu
def oE:MC:=(dq (gp (eBin qx (eVar 1) (eC (.str ""))) (gp (eBin qx (eBin dj (eVar 1) (eC (.int 0))) (eC (.str "0"))) (au dg [(eVar 1),(eC (.str "0123456789"))]))))
def oF:MC:=(aC (sSet 1 (Cw (dB kf (eVar 0) (eC (.str "-"))) (mx (eVar 0) (some (eC (.int 1))) none) (eVar 0))) oE)
def tm:MC:=
 (aC (sIf (eBin dEq (eVar 0) (eC (.str "0"))) (dq (eC (.bl true))) bp) oF)
def gA:List D->Option R:=kH 1 2 tm
def pY:MC:=(dq (Cw (gW AH AH (eC (.int (-1000000000))) (eVar 1) (eC (.int (1000000000)))) (eVar 1) (eC .non)))
def pZ:MC:=(aC (sSet 1 (au (f1 nJ) [(eVar 0)])) pY)
def vx:MC:=
 (aC (sIf (pD (au gA [(eVar 0)])) (dq (eC .non)) bp) pZ)
def eD:List D->Option R:=kH 1 2 vx
def xq:MC:=
 (dq (Cw (eBin (dIn false) (eVar 1) (eVar 0)) (F0 pG (eVar 0) (eVar 1)) (eC .non)))
def dP:List D->Option R:=kH 2 2 xq
def qz:MC:=(sIf (eBin dEq (eVar 4) (eC (.str "BOX"))) (cH 3 (au dP [(eVar 2),(eVar 5)])) (sIf (eBin dEq (eVar 4) (eC (.str "NUMBER"))) (cH 3 (au eD [(eVar 5)])) bp))
def pW:MC:=(cC 3 (dq (eVar 3)))
def pX:MC:=(aC (lV (Cb (eVar 0) (eVar 1)) (mH [4,5]) qz) pW)
def vw:MC:=
 (aC (sSet 3 (du [])) pX)
def ij:List D->Option R:=kH 3 6 vw
def qB:MC:=(sIf (au gU [(eVar 3),(eVar 1)]) (cC 2 (aC (sSet 4 (au ij [(eVar 3),(eVar 1),(eVar 2)])) (cC 4 (aC (sSet 5 (au ik [(eVar 3),(eVar 1),(eVar 4)])) (cC 4 (dq (Cw (gp (eBin (dIn true) (eC .non) (eVar 4)) (au tJ [(eVar 0),(eVar 5)])) (eVar 5) (eC .non)))))))) bp)
def qh:MC:=(dq (eC .non))
def qi:MC:=(aC (lV (fB (eC (.tup [(.tup [(.str "put"),(.str "BOX"),(.str "NUMBER")]),(.tup [(.str "put"),(.str "BOX"),(.str "NUMBER"),(.str "NUMBER")]),(.tup [(.str "copy"),(.str "BOX"),(.str "BOX")]),(.tup [(.str "grow"),(.str "BOX"),(.str "NUMBER")]),(.tup [(.str "tick"),(.str "BOX")]),(.tup [(.str "still"),(.str "NUMBER")]),(.tup [(.str "here"),(.str "BOX"),(.str "is"),(.str "BOX"),(.str "plus"),(.str "NUMBER")]),(.tup [(.str "here"),(.str "BOX"),(.str "most"),(.str "BOX"),(.str "plus"),(.str "NUMBER")]),(.tup [(.str "none"),(.str "BOX")]),(.tup [(.str "anew"),(.str "BOX"),(.str "from"),(.str "BOX"),(.str "by"),(.str "BOX")])]))) (aY 3) qB) qh)
def vz:MC:=
 (aC (sSet 2 (b3 [6] (fB (eVar 0)) (aY 6) bf (eBin dj (eVar 6) (eC (.int 0))))) qi)
def fW:List D->Option R:=kH 2 7 vz
def jl:MC:=(gE 0 (eC (.bl true)))
def jm:MC:=(aC (mQ ["Reader"] 0 "rows" (gn [(eVar 2),(eVar 3)])) jl)
def jn:MC:=(aC (sE 0 4 3 (fB (dH (cS ["Reader"] "stretches") (eVar 0))) (eBin nW (eVar 3) (eVar 4))) jm)
def jo:MC:=(aC (sSet 3 (eC (.int 0))) jn)
def jq:MC:=(aC (sIf (cj 0 (kJ (dH Af (eVar 2)) (eBin dEq (aJ (f1 cm) [(eBin dj (dH (cS ["Reader"] "rows") (eVar 0)) (eC (.int (-1))))]) (eC (.int (12)))))) (gE 0 (eC (.bl false))) bp) jo)
def gQ:MC:=
 (aC (sSet 2 (cj 0 (au fW [(dH (cS ["Reader"] "boxes") (eVar 0)),(eVar 1)]))) jq)
def cM:MF:=A9 0 2 5 gQ
def ko:MC:=(gE 0 (eC (.bl true)))
def kq:MC:=(aC (qO ["Reader"] 0 "stretches") ko)
def ic:MC:=
 (aC (sIf (cj 0 (kJ (eBin qx (aJ (f1 cm) [(eH 1)]) (eC (.int 1))) (eBin gY (dH (cS ["Reader"] "stretches") (eVar 0)) (du [])))) (gE 0 (eC (.bl false))) bp) kq)
def cY:MF:=A9 0 2 2 ic
def kj:MC:=(gE 0 (eC (.bl true)))
def kl:MC:=(aC (mP ["Reader"] 0 "rows" (du [])) kj)
def km:MC:=(cC 2 (aC (sIf (cj 0 (kJ (eBin dEq (eVar 3) (aJ (f1 cm) [(eH 2)])) (kJ (pD (eF "may_end" dJ (eVar 0) [])) (eBin (Cz 1) (eVar 1) (du [(eC (.str "row")),(eBin dj (eVar 2) (eVar 3))]))))) (gE 0 (eC (.bl false))) bp) kl))
def kn:MC:=(aC (sSet 3 (cj 0 (aJ (f1 cm) [(dH (cS ["Reader"] "rows") (eVar 0))]))) km)
def ib:MC:=
 (aC (sSet 2 (cj 0 (eF "row_names" aL (eVar 0) []))) kn)
def cX:MF:=A9 0 2 4 ib
def ji:MC:=(gE 0 (eC (.bl true)))
def jj:MC:=(cC 2 (aC (oK ["Reader"] 0 "stretches" (au (f1 Gw) [(b3 [4] (fB (dH my (eVar 2))) (aY 4) bf (eBin xQ (eC (.int 1)) (eVar 4)))])) ji))
def jk:MC:=(cC 2 (aC (sIf (cj 0 (kJ (eBin gY (eVar 2) (du [])) (kJ (eBin (dIn false) (eC .non) (eVar 2)) (kJ (eBin (dIn false) (eC (.int 0)) (eVar 2)) (eBin dEq (aJ (f1 cm) [(dH (cS ["Reader"] "stretches") (eVar 0))]) (eC (.int (12)))))))) (gE 0 (eC (.bl false))) bp) jj))
def gP:MC:=
 (aC (sSet 2 (b3 [3] (fB (dt (eVar 1) (some (eC (.int 1))) none)) (aY 3) bf (cj 0 (au dP [(eF "row_names" aL (eVar 0) []),(eVar 3)])))) jk)
def cL:MF:=A9 0 2 5 gP
def nL:MC:=(cC 2 (kD 0 (gj "Reader" 0 "take_deed" cM [(eVar 2)])))
def nM:MC:=(cC 2 (aC (sIf (eBin dEq (eBin dj (eVar 2) (eC (.int 0))) (eC (.str "open"))) (cC 2 (kD 0 (gj "Reader" 0 "take_end" cY [(eVar 2)]))) bp) nL))
def nN:MC:=(cC 2 (aC (sIf (eBin dEq (eBin dj (eVar 2) (eC (.int 0))) (eC (.str "shut"))) (cC 2 (kD 0 (gj "Reader" 0 "take_shut" cL [(eVar 2)]))) bp) nM))
def nO:MC:=(aC (sIf (cj 0 (eBin gY (dH (cS ["Reader"] "rows") (eVar 0)) (du []))) (gE 0 (eC (.bl false))) bp) nN)
def nP:MC:=(cC 2 (aC (sIf (eBin dEq (eBin dj (eVar 2) (eC (.int 0))) (eC (.str "row"))) (cC 2 (kD 0 (gj "Reader" 0 "take_row" cX [(eVar 2)]))) bp) nO))
def nQ:MC:=(cC 2 (aC (sIf (eBin dEq (eBin dj (eVar 2) (eC (.int 0))) (eC (.str "bell"))) (cC 2 (kD 0 (gj "Reader" 0 "take_bell" cN [(eVar 2)]))) bp) nP))
def nR:MC:=(cC 2 (aC (sIf (eBin dEq (eBin dj (eVar 2) (eC (.int 0))) (eC (.str "box"))) kU bp) nQ))
def kE:MC:=
 (aC (sSet 2 (dB lH (eVar 1) (eC (.str " ")))) nR)
def fH:MF:=A9 0 2 3 kE
def jh:Vg->Option (List D->Option R):=(GR ["Reader"] cz ur)
theorem kP:jh "Reader" = some cz:=rfl
def rQ:Vg->Option (List D->Option R):=(GR ["Reader"] dA ur)
theorem oC:rQ "Reader" = some dA:=rfl
def mF:MC:=(Fk (G9 (G8 (gj "Reader" 1 "take" fH [(eVar 3)]))) kU bp)
def AW:MC:=(cC 1 (dq (cj 1 (eF "made" rQ (eVar 1) []))))
def AX:MC:=(cC 1 (aC (sIf (cj 1 (pD (eF "is_whole" jh (eVar 1) []))) kU bp) AW))
def AY:MC:=(aC (lV (EW (eVar 0)) (mH [2,3]) mF) AX)
def G6:MC:=
 (aC (Bf 1 "Reader" ["boxes","bells","rows","stretches"]) AY)
def tH:List D->Option R:=kH 1 4 G6
def u5:MC:=(cC 2 (cH 4 (eBin dAdd (eBin dAdd (eBin dAdd (eC (.str "bell ")) (eBin dj (eVar 2) (eVar 5))) (eC (.str " "))) (au (f1 pF) [(eBin dAdd (eC (.int 1)) (au ax [(eVar 0),(eBin dAdd (eC (.int 14)) (eVar 5)),(eC (.int 9))]))]))))
def As:MC:=(cH 6 (gn [(eVar 8),(eVar 9),(eBin dj (eVar 7) (eC (.int 1)))]))
def rH:MC:=(cC 4 (aC (sSet 4 (eBin dAdd (eBin dAdd (eVar 4) (du [(eBin dAdd (eC (.str "row ")) (eVar 8))])) (eBin dj (eVar 7) (eC (.int 0))))) As))
def Au:MC:=(aC (sIf (eBin Eo (eVar 5) (eC (.int 0))) (sSet 9 (eBin dAdd (eC (.int 1)) (au ax [(eVar 0),(eBin dAdd (eC (.int 13)) (eVar 5)),(eC (.int 9))]))) bp) rH)
def Av:MC:=(aC (sSet 9 (eC (.int 0))) Au)
def Aw:MC:=(cC 2 (aC (sSet 8 (eBin dj (eBin dAdd (du [(eC (.str "main"))]) (eVar 2)) (eVar 5))) Av))
def u4:MC:=(cC 2 (aC (sSet 7 (au iQ [(eVar 0),(eBin dAdd (eC (.int 30)) (eBin dMul (eC (.int 130)) (eVar 5))),(eVar 2),(eVar 3)])) Aw))
def CV:MC:=(cC 6 (cC 4 (dq (aJ fC [(au tH [(au (f1 F1) [(eVar 4)])]),(gn [(gn []),(au (f1 jO) [(eVar 6)])])]))))
def CW:MC:=(aC (lV (b7 (eBin dAdd (eVar 1) (eC (.int 1)))) (aY 5) u4) CV)
def CY:MC:=(aC (sSet 6 (du [])) CW)
def CZ:MC:=(aC (lV (b7 (eVar 1)) (aY 5) u5) CY)
def D0:MC:=(aC (sSet 4 (du [])) CZ)
def D1:MC:=(aC (sSet 3 (eBin dMul (eC (.int 2)) (au (f1 dInt) [(eBin dEq (au ax [(eVar 0),(eC (.int 13)),(eC (.int 3))]) (eC (.int 0)))]))) D0)
def D2:MC:=(cC 2 (aC (sIf (eBin (dIn false) (eC (.str "main")) (eVar 2)) (sSet 2 (b3 [5] (b7 (eVar 1)) (aY 5) bf (mx (eC (.str "xxxxxx")) none (some (eBin dAdd (eVar 5) (eC (.int 1))))))) bp) D1))
def D3:MC:=(aC (sSet 2 (au fV [(eVar 0),(eC (.int 1)),(eVar 1)])) D2)
def HQ:MC:=
 (aC (sSet 1 (eBin dAdd (eC (.int 1)) (au ax [(eVar 0),(eC (.int 0)),(eC (.int 6))]))) D3)
def yQ:List D->Option R:=kH 1 10 HQ
end
def uM(n:Nat):List D->Option R:=Nat.rec (motive:=λ_=>List D->Option R) (λ_=>none) (λ_ G=>kH 2 4 (lA G)) n
theorem fb(n:Nat):uM (n+1)=kH 2 4 (lA (uM n)):=rfl
theorem uL(G:List D->Option R)(ds:List D)(mk:List D->D)(hmk:mk=D.tup\/mk=D.lst)(hl:ds.length<=lim)(h:∀d∈ds,G [d,d]=okB true):
  au (f1 Ah) [b3 [2,3] (DZ (eVar 0) (eVar 1)) (mH [2,3]) bf (au G [(eVar 2),(eVar 3)])] [some (.sh (mk ds)),some (.sh (mk ds)),none,none]=okB true:=by
 have hz:DZ (eVar 0) (eVar 1) [some (.sh (mk ds)),some (.sh (mk ds)),none,none]=some (.ok (ds.map λd=>D.tup [d,d])):=by
  rcases hmk with rfl|rfl
  ·show some (RI.ok _)=_;rw[ud]
  ·show some (RI.ok _)=_;rw[ud]
 refine cI (Gy (λ_=>.bl true) hz (by rw[length_map];exact hl) λd hd=>?_) ?_
 ·obtain⟨e,he,rfl⟩:=mem_map.mp hd;exact⟨[some (.sh (mk ds)),some (.sh (mk ds)),some (.sh e),some (.sh e)],.sh (.bl true),rfl,rfl,h e he,rfl⟩
 ·rw[map_map];show(blsOf (ds.map λ_=>D.bl true)).bind (λbs=>okB (bs.all id))=_;rw[y0];simp
theorem zG:∀(n:Nat)(d:D),hJ n d->uM (n+1) [d,d]=okB true:=by
 intro n d h
 induction h with
 |non n=>rw[fb];rfl
 |bl n b=>rw[fb];cases b <;> rfl
 |int n i=>
  rw[fb];exact bq rfl (a8 (b6 rfl rfl) (a8 (b6 rfl rfl) (dE (gT rfl (bX (jR rfl (ab rfl rfl (jM i))))))))
 |str n x=>
  rw[fb];exact bq rfl (a8 (b6 rfl rfl) (a8 (b6 rfl rfl) (a8 (b6 rfl rfl) (a8 (b6 rfl rfl) (bX (jR rfl (ab rfl rfl (jL x))))))))
 |tup n ds hd hl ih=>
  rw[fb];exact bq rfl (dE (gT rfl (a8 (b6 rfl rfl) (bX (jR (ab rfl rfl (jM _)) (uL (uM (n+1)) ds D.tup (.inl rfl) hl ih))))))
 |lst n ds hd hl ih=>
  rw[fb];exact bq rfl (dE (gT rfl (a8 (b6 rfl rfl) (bX (jR (ab rfl rfl (jM _)) (uL (uM (n+1)) ds D.lst (.inr rfl) hl ih))))))
theorem zF{n:Nat}{d:D}(h:hJ n d)(hn:n<=11):fC [d,d]=okB true:=zG 11 d (h.mono hn)
def pE(ns:List Int)(k m:Int):Int:=((if ns=[] then 0 else(ns.getD (k % ns.length).toNat 0) % 2147483647) * 48271+(k+1) * (k+5) * 69621) % 2147483629 % m
theorem rj{sc:D}{k m c:Int}(h0:0<=k)(h1:k<=100000)(hm:0<m):
  (dq (eBin lI (eBin lI (eBin dAdd (eBin dMul (eVar 3) (eC (.int 48271))) (eBin dMul (eBin dMul (eBin dAdd (eVar 1) (eC (.int 1))) (eBin dAdd (eVar 1) (eC (.int 5)))) (eC (.int 69621)))) (eC (.int 2147483629))) (eVar 2))) [some (.sh sc),some (.sh (.int k)),some (.sh (.int m)),some (.sh (.int c))]
   = some (.ret (.sh (.int ((c * 48271+(k+1) * (k+5) * 69621) % 2147483629 % m)))):=by
 refine bX (ab (ab (ab (ab rfl rfl (HM (by decide) (by decide))) (ab (ab rfl rfl (HN ?_ ?_)) rfl (HM (by decide) (by decide))) (add_int _ _)) rfl (jZ (by decide))) rfl (jZ hm))
 ·show(-(2 ^ 60):Int)<=k+1;omega
 ·show k+1<=2 ^ 60;omega
theorem Ei{ns:List Int}{k m:Int}(h0:0<=k)(h1:k<=100000)(hm:0<m):ax [.lst (ns.map D.int),.int k,.int m]=okI (pE ns k m):=by
 cases ns with
 |nil=>exact bq rfl (a8 (aM rfl) (a8 (b6 rfl rfl) (rj h0 h1 hm)))
 |cons n ns=>
  have hl:(0:Int)<((n::ns).length:Int):=by rw[length_cons];omega
  have hp:0<=k % ((n::ns).length:Int):=Int.emod_nonneg _ (by omega)
  have hq:k % ((n::ns).length:Int)<((n::ns).length:Int):=Int.emod_lt_of_pos _ hl;have hlen:cm (.lst ((n::ns).map D.int))=okI ((n::ns).length:Int):=by show okI (((n::ns).map D.int).length:Int)=_;rw[length_map]
  have hix:dj (.lst ((n::ns).map D.int)) (.int (k % ((n::ns).length:Int)))=okI ((n::ns).getD (k % ((n::ns).length:Int)).toNat 0):=by
   have e:((n::ns).map D.int)[(k % ((n::ns).length:Int)).toNat]?=some (.int ((n::ns).getD (k % ((n::ns).length:Int)).toNat 0)):=by
    have hi:(k % ((n::ns).length:Int)).toNat<(n::ns).length:=by omega
    rw[getElem?_map,getD_eq_getElem?_getD,getElem?_eq_getElem hi];rfl
   have z:=lC e;rwa[Int.toNat_of_nonneg hp] at z
  refine bq rfl (a8 (aM rfl) (a8 (gT (ab (iy rfl hlen) rfl ?_) (aM (ab (ab rfl (ab rfl (iy rfl hlen) (jZ hl)) hix) rfl (jZ (by decide))))) ?_))
  ·show okB (decide (0<((n::ns).length:Int)))=_;rw[decide_eq_true hl]
  ·unfold pE;rw[if_neg (cons_ne_nil _ _)];exact rj h0 h1 hm
theorem yT{ns:List Int}{k m:Int}(hm:0<m):0<=pE ns k m/\pE ns k m<m:=by
 unfold pE;exact⟨Int.emod_nonneg _ (by omega),Int.emod_lt_of_pos _ hm⟩
def T(L:List Nat):Str:=⟨L.toArray⟩
theorem GG(x:Str):x=T x.cps.toList:=by obtain⟨c⟩:=x;unfold T;congr 1
theorem gv(L:List Nat):(T L).length=L.length:=by show L.toArray.size=_;exact size_toArray
theorem CJ(L:List Nat):(T L).cps.toList=L:=rfl
theorem wm{L M:List Nat}(h:T L=T M):L=M:=by
 have:=congrArg (λx:Str=>x.cps.toList) h;exact this
theorem JC(L M:List Nat):dEq (.str (T L)) (.str (T M))=okB (decide (L=M)):=by
 by_cases h:L=M
 ·rw[decide_eq_true h,h];exact jL _
 ·rw[decide_eq_false h];have:T L≠T M:=λz=>h (wm z);unfold dEq Cv;simp[this]
theorem Ik(L M:List Nat):qx (.str (T L)) (.str (T M))=okB (!decide (L=M)):=by
 by_cases h:L=M
 ·rw[decide_eq_true h,h];unfold qx Cv;simp
 ·rw[decide_eq_false h];have:T L≠T M:=λz=>h (wm z);unfold qx Cv;simp[this]
theorem CA{c:Nat}{L:List Nat}:Txt.slice (T (c::L)) (some 1) none=T L:=by
 have h:=StrLaws.sliceText_from (x:=T (c::L)) (i:=1) ⟨by decide,by rw[CJ,length_cons];omega⟩
 refine Eq.trans (show Txt.slice (T (c::L)) (some 1) none=StrLaws.sliceText (T (c::L)) (some 1) none from rfl) (h.trans ?_);rw[CJ];show T (((c::L).drop 1).take _)=T L;rw[List.take_of_length_le (by rw[length_cons];show L.length<=_;omega)];rfl
def DY(c:Nat):Bool:=decide (48<=c/\c<=57)
theorem Ea:(Str.ofString "0123456789").cps.toList=[48,49,50,51,52,53,54,55,56,57]:=by decide +kernel
theorem E9(c:Nat):decide (c∈(Str.ofString "0123456789").cps.toList)=DY c:=by
 rw[Ea];unfold DY;refine decide_eq_decide.mpr ⟨λh=>?_,λh=>?_⟩
 ·simp only[mem_cons,List.not_mem_nil,or_false] at h;omega
 ·simp only[mem_cons,List.not_mem_nil,or_false];omega
theorem nA(c:Nat)(L:List Nat):Txt.startswith (T (c::L)) (T [45])=decide (c=45):=by
 unfold Txt.startswith;rw[StrLaws.subAt_eq,gv,gv];show(decide (0+1<=(c::L).length) && ((((c::L).drop 0).take 1) == [45]))=_;rw[length_cons,decide_eq_true (by omega),Bool.true_and]
 show([c] == [45])=_;rw[Bool.eq_iff_iff,beq_iff_eq,decide_eq_true_iff];exact⟨λz=>by injection z,λz=>by rw[z]⟩
theorem wI:Txt.startswith (T []) (T [45])=false:=by decide
theorem yI:∀(cs:List Nat)(acc:Array Nat),(cs.map λc=>(⟨#[c]⟩:Str)).foldl (λacc p=>acc++Str.empty.cps++p.cps) acc=acc++cs.toArray
 |[],acc=>by simp
 |c::cs,acc=>by
  show(cs.map λc=>(⟨#[c]⟩:Str)).foldl _ (acc++#[]++#[c])=_;rw[yI cs];simp
theorem Gg(cs:List Nat):Txt.join Str.empty (cs.map λc=>(⟨#[c]⟩:Str))=T cs:=by
 cases cs with
 |nil=>rfl
 |cons c cs=>
  show(⟨(cs.map λc=>(⟨#[c]⟩:Str)).foldl (λacc p=>acc++Str.empty.cps++p.cps) #[c]⟩:Str)=_;rw[yI];unfold T;congr 1;simp
theorem vH:∀(cs:List Nat)(n:Nat),((cs.map λc=>(⟨#[c]⟩:Str)).foldl (λx1 x2=>x1+x2.length+Str.empty.length) n)=n+cs.length
 |[],n=>rfl
 |c::cs,n=>by
  show(cs.map λc=>(⟨#[c]⟩:Str)).foldl _ (n+1+0)=_;rw[vH cs,length_cons];omega
theorem DU{cs:List Nat}(h:cs.length<=1000):JoinOk Str.empty (cs.map λc=>(⟨#[c]⟩:Str))=true:=by
 unfold JoinOk Builtin.Str.tooLong;rw[List.foldl_toArray,vH,Bool.not_eq_true',decide_eq_false_iff_not,sizeLine_eq];omega
theorem Gf{ρ:aA}{ge:ME}{s:S}{cs:List Nat}(h:ge ρ=some (.ok s))(hs:s.val=.lst (cs.map sgn))(hl:cs.length<=1000):dB dh (eC (.str Str.empty)) ge ρ=okD (.str (T cs)):=by
 show aQ (ge ρ) (λy=>dh (.str Str.empty) y)=_;rw[h];show dh (.str Str.empty) s.val=_;rw[hs];have e:cs.map sgn=(cs.map λc=>(⟨#[c]⟩:Str)).map D.str:=by rw[map_map];rfl
 rw[e];show(gg _).bind _=_;rw[iX];dsimp only[Option.bind_some];rw[if_pos (DU hl),Gg]
theorem JO:Str.ofString "0" = T [48]:=by decide +kernel
theorem K5:Str.ofString "-" = T [45]:=by decide +kernel
theorem K6:Str.ofString "" = T []:=by decide +kernel
theorem eB{bd:MB}{body:MC}{d:D}{ds:List D}{ρ ρ1 ρ2:aA}(h1:bd d ρ=some ρ1)(h2:body ρ1=some (.next ρ2)):iP bd body (d::ds) ρ=iP bd body ds ρ2:=by
 conv=>lhs;unfold iP
 rw[h1];dsimp only;rw[h2]
theorem Cj{bd:MB}{body:MC}{d:D}{ds:List D}{ρ ρ1:aA}{s:S}(h1:bd d ρ=some ρ1)(h2:body ρ1=some (.ret s)):iP bd body (d::ds) ρ=some (.ret s):=by
 conv=>lhs;unfold iP
 rw[h1];dsimp only;rw[h2]
def valF(t:Nat)(B:List Nat):Nat:=B.foldl (λacc c=>acc * 10+(c - 48)) t
def br:List Nat->List Nat
 |[]=>[]
 |c::L=>if c=45 then L else c::L
def Ez(L:List Nat):Bool:=decide (br L=[]) || (decide ((br L).head?=some 48) && !decide (L=[48]))
def rdV(L:List Nat):D:=if Ez L=true then .non else if(br L).all DY=true then(if 1000000000<valF 0 (br L) then .non else .int (if br L=L then(valF 0 (br L):Int) else -(valF 0 (br L):Int))) else .non
theorem Jo{c:Nat}{B:List Nat}(h:(c::B).length<=640):dj (.str (T (c::B))) (.int 0)=okD (.str (T [c])):=by
 show(if(T (c::B)).length<=lim then(rJ (T (c::B)).cps.toList 0).bind λc=>okD (.str ⟨#[c]⟩) else none)=_;rw[if_pos (by rw[gv];exact le_trans h (by decide)),CJ]
 unfold rJ AF;rw[if_pos (by decide),if_pos (by rw[length_cons];omega)]
 rfl
theorem xZ{L:List Nat}:br (45::L)=L:=by show(if(45:Nat)=45 then L else 45::L)=L;exact if_pos rfl
theorem xY{c:Nat}{L:List Nat}(h:c≠45):br (c::L)=c::L:=if_neg h
theorem Ex(L:List Nat):(br L).length<=L.length:=by
 cases L with
 |nil=>exact le_refl _
 |cons c L=>
  by_cases h:c=45
  ·subst h;rw[xZ,length_cons];omega
  ·rw[xY h];exact le_refl _
theorem rB{α:Type}(f:α->Bool):∀l:List α,blsOf (l.map λc=>D.bl (f c))=some (l.map f)
 |[]=>rfl
 |a::l=>by
  show(blsOf (l.map λc=>D.bl (f c))).map (f a::·)=_;rw[rB f l];rfl
theorem GF{α:Type}(f:α->Bool)(l:List α):Ah (.lst (l.map λc=>D.bl (f c)))=okB (l.all f):=by
 show(blsOf _).bind _=_;rw[rB];show okB ((l.map f).all id)=_;rw[List.all_map];rfl
theorem wk(B:List Nat)(z:Str)(hl:B.length<=1000):dg [.str (T B),.str z]=okB (B.all λc=>decide (c∈z.cps.toList)):=by
 refine bq rfl (bX (cI (bR B sgn (λc=>D.bl (decide (c∈z.cps.toList))) (show E1 (eVar 0) _=some (.ok (B.map sgn)) from rfl) (le_trans hl (by decide)) λc _=>⟨_,rfl,.sh (.bl (decide (c∈z.cps.toList))),ab rfl rfl rfl,rfl⟩) (GF _ _)))
def HX(L:List Nat):Bool:=decide (L=[48]) || (!decide (br L=[]) && (!decide ((br L).head?=some 48) && (br L).all DY))
theorem wA{L:List Nat}(hl:L.length<=640):gA [.str (T L)]=okB (HX L):=by
 have e0:∀e1:Option S,eBin dEq (eVar 0) (eC (.str (Str.ofString "0"))) [some (.sh (.str (T L))),e1]=okB (decide (L=[48])):=λe1=>ab rfl rfl (by show dEq (.str (T L)) (.str (Str.ofString "0"))=_;rw[JO,JC])
 unfold HX;by_cases h0:L=[48]
 ·rw[decide_eq_true h0,Bool.true_or];exact bq rfl (dE (gT ((e0 _).trans (by rw[decide_eq_true h0])) (bX rfl)))
 ·rw[decide_eq_false h0,Bool.false_or];have hbl:(br L).length<=640:=le_trans (Ex L) hl;have hs:∀{lo hi:Option Int},El (.str (T L)) lo hi=okD (.str (Txt.slice (T L) lo hi)):=λ{lo hi}=>if_pos (by rw[gv];exact le_trans hl (by decide))
  have st:dB kf (eVar 0) (eC (.str (Str.ofString "-"))) [some (.sh (.str (T L))),none]=okB (Txt.startswith (T L) (T [45])):=by
   show okB (Txt.startswith (T L) (Str.ofString "-"))=_;rw[K5]
  have e1:Cw (dB kf (eVar 0) (eC (.str (Str.ofString "-")))) (mx (eVar 0) (some (eC (.int 1))) none) (eVar 0) [some (.sh (.str (T L))),none]=okD (.str (T (br L))):=by
   cases L with
   |nil=>exact vL (st.trans (by rw[wI])) rfl
   |cons c L=>
    by_cases h:c=45
    ·refine(yN (st.trans (by rw[nA,decide_eq_true h])) (hs (lo:=some 1) (hi:=none))).trans ?_
     subst h;rw[CA,xZ]
    ·refine(vL (st.trans (by rw[nA,decide_eq_false h])) rfl).trans ?_
     rw[xY h];rfl
  have n1:eBin qx (eVar 1) (eC (.str (Str.ofString ""))) [some (.sh (.str (T L))),some (.sh (.str (T (br L))))]=okB (!decide (br L=[])):=ab rfl rfl (by show qx (.str (T (br L))) (.str (Str.ofString ""))=_;rw[K6,Ik])
  have am:dg [.str (T (br L)),.str (Str.ofString "0123456789")]=okB ((br L).all DY):=by
   rw[wk _ _ (by omega)]
   congr 4;funext c;exact E9 c
  refine bq rfl (a8 (b6 ((e0 _).trans (by rw[decide_eq_false h0])) rfl) (a8 (aM e1) (bX ?_)))
  cases hB:br L with
  |nil=>
   rw[hB] at n1;exact zf (n1.trans (by rw[decide_eq_true rfl];rfl))
  |cons c B=>
   rw[hB] at n1 am hbl;rw[decide_eq_false (by intro z;cases z)] at n1 ⊢
   have e2:eBin qx (eBin dj (eVar 1) (eC (.int 0))) (eC (.str (Str.ofString "0"))) [some (.sh (.str (T L))),some (.sh (.str (T (c::B))))]=okB (!decide ((c::B).head?=some 48)):=ab (ab rfl rfl (Jo hbl)) rfl (by
    show qx (.str (T [c])) (.str (Str.ofString "0"))=_;rw[JO,Ik,show decide ([c]=[48])=decide ((c::B).head?=some 48) from decide_eq_decide.mpr ⟨λz=>by injection z with z;rw[z];rfl,λz=>by injection z with z;rw[z]⟩])
   refine jR n1 ?_;show gp _ _ _=okB (true && (!decide ((c::B).head?=some 48) && (c::B).all DY));rw[Bool.true_and];cases hd:decide ((c::B).head?=some 48) with
   |true=>rw[hd] at e2;exact zf e2
   |false=>rw[hd] at e2;exact jR e2 (gZ rfl rfl am)
theorem pR{B:List Nat}(h:B.all DY=true):NumText.AllDigits B:=λc hc=>of_decide_eq_true (all_eq_true.mp h c hc)
theorem zY{L:List Nat}(hl:L.length<=640):eD [.str (T L)]=okD (rdV L):=by
 have hw:=wA hl;cases hW:HX L with
 |false=>
  rw[hW] at hw;have e:rdV L=.non:=by
   unfold rdV Ez;unfold HX at hW;rw[Bool.or_eq_false_iff] at hW;obtain⟨h0,h1⟩:=hW;rw[h0];by_cases c1:br L=[]
   ·rw[if_pos (by rw[decide_eq_true c1];rfl)]
   ·rw[decide_eq_false c1] at h1 ⊢;by_cases c2:(br L).head?=some 48
    ·rw[if_pos (by rw[decide_eq_true c2];rfl)]
    ·rw[decide_eq_false c2] at h1 ⊢;rw[if_neg (by decide),if_neg (by
      have h1:(br L).all DY=false:=h1;rw[h1];exact Bool.false_ne_true)]
  rw[e];exact bq rfl (dE (gT (HJ (cI rfl hw)) (bX rfl)))
 |true=>
  rw[hW] at hw;obtain⟨n,hn,hr⟩:∃n:Int,PySem.intText? (T L)=some n/\rdV L=if -1000000000<=n/\n<=1000000000 then .int n else .non:=by
   have key:Ez L=false/\(br L).all DY=true/\br L≠[]:=by
    unfold HX at hW;unfold Ez;by_cases h0:L=[48]
    ·subst h0;exact⟨by decide,by decide,by decide⟩
    ·rw[decide_eq_false h0,Bool.false_or,Bool.and_eq_true,Bool.and_eq_true] at hW;obtain⟨w1,w2,w3⟩:=hW;have w1:decide (br L=[])=false:=by simpa using w1
     have w2:decide ((br L).head?=some 48)=false:=by simpa using w2
     exact⟨by rw[w1,w2];rfl,w3,of_decide_eq_false w1⟩
   obtain⟨k1,k2,k3⟩:=key;unfold rdV;rw[k1,if_neg Bool.false_ne_true,if_pos k2];cases L with
   |nil=>exact absurd rfl k3
   |cons c M=>
    by_cases h:c=45
    ·subst h;rw[xZ] at k2 k3 ⊢;refine⟨-(valF 0 M:Int),PySem.intText_neg (x:=T (45::M)) (cs:=M) rfl (pR k2) k3 (by rw[gv];omega),?_⟩
     have hne:¬M=45::M:=λz=>by have:=congrArg List.length z;rw[length_cons] at this;omega
     rw[if_neg hne];by_cases hv:1000000000<valF 0 M
     ·rw[if_pos hv,if_neg (by omega)]
     ·rw[if_neg hv,if_pos (by omega)]
    ·rw[xY h] at k2 k3 ⊢;refine⟨(valF 0 (c::M):Int),PySem.intText_digits (x:=T (c::M)) (pR k2) k3 (by rw[gv];omega),?_⟩
     rw[if_pos rfl];by_cases hv:1000000000<valF 0 (c::M)
     ·rw[if_pos hv,if_neg (by omega)]
     ·rw[if_neg hv,if_pos (by omega)]
  have hi:nJ (.str (T L))=okI n:=by
   show(if(T L).length<=640 then(PySem.intText? (T L)).bind λn=>okI n else none)=_;rw[if_pos (by rw[gv];exact hl),hn];rfl
  rw[hr];refine bq rfl (a8 (b6 (yz (cI rfl hw)) rfl) (a8 (aM (cI rfl hi)) (bX ?_)));by_cases h1:-1000000000<=n
  ·by_cases h2:n<=1000000000
   ·rw[if_pos ⟨h1,h2⟩];exact yN (mB rfl rfl (vG h1) rfl (vG h2)) rfl
   ·rw[if_neg (λz=>h2 z.2)];exact vL (mB rfl rfl (vG h1) rfl (DS h2)) rfl
  ·rw[if_neg (λz=>h1 z.1)];exact vL (z0 rfl rfl (DS h1)) rfl
theorem Es{ρ:aA}{b:ME}{n:Nat}(h:b ρ=okI (n:Nat)):gW AH AH (eC (.int 1)) b (eC (.int 8)) ρ=okB (decide (1<=n) && decide (n<=8)):=by
 by_cases h1:1<=n
 ·rw[decide_eq_true h1,Bool.true_and];by_cases h2:n<=8
  ·rw[decide_eq_true h2];exact mB rfl h (vG (by show(1:Int)<=(n:Int);omega)) rfl (vG (by show(n:Int)<=8;omega))
  ·rw[decide_eq_false h2];exact mB rfl h (vG (by show(1:Int)<=(n:Int);omega)) rfl (DS (by show ¬(n:Int)<=8;omega))
 ·rw[decide_eq_false h1];exact z0 rfl h (DS (by show ¬(1:Int)<=(n:Int);omega))
def vE:Str:=Str.ofString "abcdefghijklmnopqrstuvwxyz"
def Jp(c:Nat):Bool:=decide (c∈vE.cps.toList)
def Ef(cs:List Nat):Bool:=(decide (1<=cs.length) && decide (cs.length<=8)) && cs.all Jp
theorem DP{cs:List Nat}(h:cs.length<=1000):iR [.str (T cs)]=okB (Ef cs):=by
 have hl:∀ρ:aA,ρ[0]?=some (some (.sh (.str (T cs))))->aJ (f1 cm) [eH 0] ρ=okI (cs.length:Nat):=λρ h0=>iy (iU h0) (by
  show(if(T cs).length<=lim then okI ((T cs).length:Int) else none)=_;rw[if_pos (by rw[gv];exact le_trans h (by decide)),gv])
 have ch:=Es (ρ:=[some (.sh (.str (T cs)))]) (hl _ rfl);refine bq rfl (bX ?_);unfold Ef;cases hb:(decide (1<=cs.length) && decide (cs.length<=8)) with
 |true=>rw[hb] at ch;rw[Bool.true_and];exact jR ch (gZ rfl rfl (wk cs vE h))
 |false=>rw[hb] at ch;exact zf ch
def jw:List (List Nat)->List Nat
 |[]=>[]
 |[w]=>w
 |w::v::ws=>w++32::jw (v::ws)
theorem CK(L M:List Nat):T L++T M=T (L++M):=by
 show(⟨L.toArray++M.toArray⟩:Str)=⟨(L++M).toArray⟩;rw[List.append_toArray]
theorem tu:∀ws:List (List Nat),Str.join (T [32]) (ws.map T)=T (jw ws)
 |[]=>rfl
 |[w]=>rfl
 |w::v::ws=>by
  show T w++T [32]++Str.join (T [32]) ((v::ws).map T)=_;rw[tu (v::ws),CK,CK];show T ((w++[32])++jw (v::ws))=T (w++32::jw (v::ws));rw[append_assoc];rfl
theorem vM{c:Nat}:∀{a b x y:List Nat},c∉a->c∉b->a++c::x=b++c::y->a=b/\x=y
 |[],[],_,_,_,_,h=>⟨rfl,(List.cons.inj h).2⟩
 |[],d::b,_,_,_,hb,h=>absurd (List.cons.inj h).1 λe=>hb (by rw[e];exact mem_cons_self)
 |d::a,[],_,_,ha,_,h=>absurd (List.cons.inj h).1 λe=>ha (by rw[<-e];exact mem_cons_self)
 |d::a,e::b,_,_,ha,hb,h=>by
  obtain⟨h1,h2⟩:=List.cons.inj h;obtain⟨h3,h4⟩:=vM (λz=>ha (mem_cons_of_mem _ z)) (λz=>hb (mem_cons_of_mem _ z)) h2;exact⟨by rw[h1,h3],h4⟩
theorem C5:∀{us ws:List (List Nat)},us≠[]->ws≠[]->(∀u∈us,32∉u)->(∀w∈ws,32∉w)->jw us=jw ws->us=ws
 |[],_,h,_,_,_,_=>absurd rfl h
 |_,[],_,h,_,_,_=>absurd rfl h
 |[u],[w],_,_,_,_,e=>by rw[show u=w from e]
 |[u],w::x::ws,_,_,hu,_,e=>absurd (show(32:Nat)∈u by rw[show u=w++32::jw (x::ws) from e];simp) (hu u mem_cons_self)
 |u::v::us,[w],_,_,_,hw,e=>absurd (show(32:Nat)∈w by rw[<-show u++32::jw (v::us)=w from e];simp) (hw w mem_cons_self)
 |u::v::us,w::x::ws,_,_,hu,hw,e=>by
  obtain⟨h1,h2⟩:=vM (hu u mem_cons_self) (hw w mem_cons_self) (show u++32::jw (v::us)=w++32::jw (x::ws) from e);rw[h1,C5 (cons_ne_nil _ _) (cons_ne_nil _ _) (λz hz=>hu z (mem_cons_of_mem _ hz)) (λz hz=>hw z (mem_cons_of_mem _ hz)) h2]
theorem B7(x y:Str):Txt.split x y≠[]:=by
 unfold Txt.split;split
 ·exact cons_ne_nil _ _
 ·split
  ·exact cons_ne_nil _ _
  ·rw[StrLaws.partsBetween_eq];obtain⟨p,r,e⟩:=StrLaws.partsFrom_ne x y.length 0 (Builtin.Str.occurrences x y 0 x.length (x.length+1));rw[e];exact cons_ne_nil _ _
theorem B8{ws:List (List Nat)}(h0:ws≠[])(h:∀w∈ws,32∉w):Txt.split (T (jw ws)) (T [32])=ws.map T:=by
 have e:Txt.split (T (jw ws)) (T [32])=((Txt.split (T (jw ws)) (T [32])).map λx=>x.cps.toList).map T:=by
  rw[map_map]
  conv=>lhs;rw[<-List.map_id (Txt.split (T (jw ws)) (T [32]))]
  exact List.map_congr_left λx _=>GG x
 have j:=StrLaws.join_split (T (jw ws)) (T [32]);have f:=StrLaws.split_free (T (jw ws)) 32;rw[e,tu] at j;rw[e,C5 (by simpa using B7 _ _) h0 (λu hu=>by
  obtain⟨p,hp,rfl⟩:=mem_map.mp hu;exact f p hp) h (wm j)]
theorem xy:∀ws:List (List Nat),(∀w∈ws,w.length<=8)->(jw ws).length<=9 * ws.length
 |[],_=>zero_le _
 |[w],h=>by have:=h w mem_cons_self;show w.length<=9;omega
 |w::v::ws,h=>by
  have h1:=h w mem_cons_self;have h2:=xy (v::ws) λx hx=>h x (mem_cons_of_mem _ hx);show(w++32::jw (v::ws)).length<=_;rw[length_append,length_cons];rw[length_cons (a:=w)];omega
abbrev tD(w:List Nat):D:=.str (T w)
theorem D6{ρ:aA}{g:ME}{ws:List (List Nat)}(hg:g ρ=okD (tD (jw ws)))(h0:ws≠[])(h:∀w∈ws,32∉w/\w.length<=8)(hl:ws.length<=100):dB lH g (eC (.str (Str.ofString " "))) ρ=some (.ok (.own (.lst (ws.map tD)))):=by
 unfold dB;rw[hg];have es:Str.ofString " " = T [32]:=by decide +kernel
 show lH (.str (T (jw ws))) (.str (Str.ofString " "))=_;rw[es];have e:=B8 h0 λw hw=>(h w hw).1;have l:=xy ws λw hw=>(h w hw).2;unfold lH;dsimp only;rw[e,if_pos ⟨rfl,by rw[gv];exact le_trans l (le_trans (by omega) (show 1000<=lim by decide)),by rw[length_map];exact le_trans hl (by decide)⟩,map_map]
 rfl
theorem pJ{L M:List Nat}(h:L.length+M.length<=1000):dAdd (tD L) (tD M)=okD (tD (L++M)):=by
 show(if(T L).length+(T M).length<=lim then okD (.str (T L++T M)) else none)=_;rw[if_pos (by rw[gv,gv];exact le_trans h (by decide)),CK]
abbrev natD(k:Nat):D:=.int (k:Int)
abbrev scD(ns:List Int):D:=.lst (ns.map D.int)
def dn(ns:List Int)(k m:Nat):Nat:=(pE ns k m).toNat
theorem iS{ns:List Int}{k m:Nat}(hm:0<m):dn ns k m<m:=by
 have:=yT (ns:=ns) (k:=(k:Int)) (m:=(m:Int)) (by omega)
 unfold dn;omega
theorem gX{ns:List Int}{k m:Nat}(hk:k<=100000)(hm:0<m):ax [scD ns,natD k,natD m]=okI (dn ns k m:Nat):=by
 have:=yT (ns:=ns) (k:=(k:Int)) (m:=(m:Int)) (by omega)
 rw[show ax [scD ns,natD k,natD m]=okI (pE ns k m) from Ei (by omega) (by omega) (by omega)]
 unfold dn;rw[Int.toNat_of_nonneg this.1]
theorem fE(a b:Nat):dAdd (natD a) (natD b)=okI ((a+b:Nat):Int):=rfl
theorem BS{a b:Nat}(h:a<=1000):dMul (natD a) (natD b)=okI ((a * b:Nat):Int):=HN (by omega) (by omega)
theorem yG:vE.cps.toList=(List.range 26).map (97 + ·):=by decide +kernel
theorem GE{α:Type}{l:List α}{a:α}{n:Nat}(h:l[n]?=some a):rJ l (n:Int)=some a:=by
 have hn:n<l.length:=(List.getElem?_eq_some_iff.mp h).1;unfold rJ AF;rw[if_pos (by omega),if_pos (by omega)]
 simp[h]
theorem BY{d:Nat}(h:d<26):dj (.str vE) (natD d)=okD (sgn (97+d)):=by
 have e:(vE.cps.toList)[d]?=some (97+d):=by rw[yG,getElem?_map,getElem?_range h];rfl
 show(if vE.length<=lim then(rJ vE.cps.toList (d:Int)).bind λc=>okD (.str ⟨#[c]⟩) else none)=_;rw[if_pos (by decide +kernel),GE e]
 rfl
structure NmOk(w:List Nat):Prop where
 l1:1<=w.length
 l8:w.length<=8
 le:∀c∈w,97<=c/\c<123
theorem NmOk.free{w:List Nat}(h:NmOk w):32∉w:=λz=>by have:=h.le 32 z;omega
theorem Gj{c:Nat}(h:97<=c/\c<123):Jp c=true:=by
 unfold Jp;rw[yG];exact decide_eq_true (mem_map.mpr ⟨c - 97,mem_range.mpr (by omega),by omega⟩)
theorem NmOk.due{w:List Nat}(h:NmOk w):Ef w=true:=by
 unfold Ef;rw[decide_eq_true h.l1,decide_eq_true h.l8,all_eq_true.mpr λc hc=>Gj (h.le c hc)];rfl
theorem zy{ds:List D}{x:Nat}(h:x<=ds.length):nh (.lst ds) none (some (x:Int))=okL (ds.take x):=by
 have e:kW ds.length ds.length (some (x:Int))=x:=by
  show(if(x:Int)<0 then((x:Int)+(ds.length:Int)).toNat else min (x:Int).toNat ds.length)=x;rw[if_neg (by omega)];omega
 show okL ((ds.drop 0).take (kW ds.length ds.length (some (x:Int)) - 0))=_;rw[e];rfl
theorem uH{ds:List D}{x:Nat}(h:x<=ds.length):nh (.lst ds) (some (x:Int)) none=okL (ds.drop x):=by
 have e:kW ds.length 0 (some (x:Int))=x:=by
  show(if(x:Int)<0 then((x:Int)+(ds.length:Int)).toNat else min (x:Int).toNat ds.length)=x;rw[if_neg (by omega)];omega
 show okL ((ds.drop (kW ds.length 0 (some (x:Int)))).take (ds.length - kW ds.length 0 (some (x:Int))))=_;rw[e,List.take_of_length_le (by rw[length_drop];omega)]
section
variable{ρ:aA}{a e1:ME}{s:S}{ds:List D}{x:Nat}
theorem oG(h:a ρ=some (.ok s))(hv:s.val=.lst ds)(hx:e1 ρ=okI x)(hl:x<=ds.length):dt a none (some e1) ρ=okL (ds.take x):=by
 unfold dt;rw[h];dsimp only[aQ];rw[hv];show(aQ (e1 ρ) λd=>match d with|.int i=>nh (.lst ds) none (some i)|_=>none)=_
 rw[hx];exact zy hl
theorem uI(h:a ρ=some (.ok s))(hv:s.val=.lst ds)(hx:e1 ρ=okI x)(hl:x<=ds.length):dt a (some e1) none ρ=okL (ds.drop x):=by
 unfold dt;rw[h];dsimp only[aQ];rw[hv];show(aQ (e1 ρ) λd=>match d with|.int i=>nh (.lst ds) (some i) none|_=>none)=_
 rw[hx];exact uH hl
end
theorem eN{ρ:aA}{a:ME}{n:Nat}(h:a ρ=okI (n:Nat))(hn:n<=1000):b7 a ρ=some (.ok ((List.range n).map natD)):=by
 rw[Bk h (A6 (by omega)),Jb]
theorem md{f:Nat->List Nat}{m:Nat}(h:∀i j,i<j->j<m->f i≠f j):((List.range m).map f).Nodup:=by
 refine List.pairwise_iff_getElem.mpr λi j hi hj hij=>?_;rw[length_map,length_range] at hj;rw[getElem_map,getElem_map,List.getElem_range,List.getElem_range];exact h i j hij hj
def stdN:List (List Nat):=[[114,111,119],[111,112,101,110],[104,101,114,101],[109,97,105,110],[105,115],[98,111,120],[112,108,117,115],[98,121]]
theorem Hj{ρ:aA}:du [(eC (.str "row")),(eC (.str "open")),(eC (.str "here")),(eC (.str "main")),(eC (.str "is")),(eC (.str "box")),(eC (.str "plus")),(eC (.str "by"))] ρ=okL (stdN.map tD):=by
 have e:[Str.ofString "row",Str.ofString "open",Str.ofString "here",Str.ofString "main",Str.ofString "is",Str.ofString "box",Str.ofString "plus",Str.ofString "by"]=stdN.map T:=by decide +kernel
 have e2:stdN.map tD=(stdN.map T).map D.str:=by rw[map_map];rfl
 rw[e2,<-e];rfl
def nm1(L:List Nat)(k:Nat):List Nat:=L.take (k+1)
def nm2(L:List Nat)(k:Nat):List Nat:=L.drop (7 - k)
def nm3(L:List Nat)(sz at_ d k:Nat):List Nat:=(L.take sz).set at_ (97+(d+3 * k) % 26)
section
variable{L:List Nat}(hL:L.length=8)(hc:∀c∈L,97<=c/\c<123){m:Nat}(h6:m<=6)
include hL hc h6
theorem G0:(∀w∈(List.range m).map (nm1 L),NmOk w)/\((List.range m).map (nm1 L)).Nodup:=by
 refine⟨λw hw=>?_,md λi j hij hj e=>?_⟩
 ·obtain⟨k,hk,rfl⟩:=mem_map.mp hw;have hk:=mem_range.mp hk;unfold nm1;exact⟨by rw[length_take];omega,by rw[length_take];omega,λc h=>hc c (List.mem_of_mem_take h)⟩
 ·have:=congrArg List.length e;unfold nm1 at this;rw[length_take,length_take] at this;omega
theorem FZ:(∀w∈(List.range m).map (nm2 L),NmOk w)/\((List.range m).map (nm2 L)).Nodup:=by
 refine⟨λw hw=>?_,md λi j hij hj e=>?_⟩
 ·obtain⟨k,hk,rfl⟩:=mem_map.mp hw;have hk:=mem_range.mp hk;unfold nm2;exact⟨by rw[length_drop];omega,by rw[length_drop];omega,λc h=>hc c (List.mem_of_mem_drop h)⟩
 ·have:=congrArg List.length e;unfold nm2 at this;rw[length_drop,length_drop] at this;omega
theorem FY{sz at_ d:Nat}(s1:1<=sz)(s8:sz<=8)(ha:at_<sz):(∀w∈(List.range m).map (nm3 L sz at_ d),NmOk w)/\((List.range m).map (nm3 L sz at_ d)).Nodup:=by
 refine⟨λw hw=>?_,md λi j hij hj e=>?_⟩
 ·obtain⟨k,hk,rfl⟩:=mem_map.mp hw;unfold nm3;refine⟨by rw[length_set,length_take];omega,by rw[length_set,length_take];omega,λc h=>?_⟩
  rcases List.mem_or_eq_of_mem_set h with h|h
  ·exact hc c (List.mem_of_mem_take h)
  ·have:=Nat.mod_lt (d+3 * k) (show 0<26 by decide);omega
 ·have hl:at_<(L.take sz).length:=by rw[length_take];omega
  have e:=congrArg (λl:List Nat=>l[at_]?) e;unfold nm3 at e;rw[getElem?_set_self hl,getElem?_set_self hl] at e;have e:=Option.some.inj e;omega
end
theorem Fc{m:Nat}(h6:m<=6):(∀w∈stdN.take m,NmOk w)/\(stdN.take m).Nodup/\(stdN.take m).length=m:=by
 refine⟨λw hw=>?_,List.Nodup.sublist (List.take_sublist _ _) (by decide),by rw[length_take];show min m 8=m;omega⟩
 have hw:=List.mem_of_mem_take hw;have h:∀w∈stdN,1<=w.length/\w.length<=8/\∀c∈w,97<=c/\c<123:=by decide
 exact⟨(h w hw).1,(h w hw).2.1,(h w hw).2.2⟩
def oz(ns:List Int):List Nat:=(List.range 8).map λk=>97+dn ns (1+k) 26
theorem AN(ns:List Int):(oz ns).length=8:=by unfold oz;rw[length_map,length_range]
theorem AM(ns:List Int):∀c∈oz ns,97<=c/\c<123:=λc h=>by
 obtain⟨k,_,rfl⟩:=mem_map.mp h;have:=iS (ns:=ns) (k:=1+k) (m:=26) (by decide)
 omega
abbrev lsD(ws:List (List Nat)):D:=.lst (ws.map tD)
abbrev wsD(L:List Nat):D:=.lst (L.map sgn)
abbrev rN(ns:List Int)(m:Nat)(s4:Option S)(s5:Option S)(s6 s7 s8 s9 s10:Option S):aA:=[some (.sh (scD ns)),some (.sh (natD 1)),some (.sh (natD m)),some (.sh (.str vE)),s4,s5,s6,s7,s8,s9,s10]
theorem xA{ρ:aA}{g:ME}{s:S}{cs:List Nat}(h:g ρ=some (.ok s))(hs:s.val=wsD cs)(hl:cs.length<=8):dB dh (eC (.str "")) g ρ=okD (tD cs):=Gf h hs (by omega)
section
variable{ns:List Int}{m:Nat}(h6:m<=6)
include h6
theorem Fb{s5 s6 s7 s8 s9 s10:Option S}{L:List Nat}(hL:L.length=8):b3 [9] (b7 (eVar 2)) (aY 9) bf (dB dh (eC (.str "")) (dt (eVar 4) none (some (eBin dAdd (eVar 9) (eC (.int 1)))))) (rN ns m (some (.sh (wsD L))) s5 s6 s7 s8 s9 s10)=okL (((List.range m).map (nm1 L)).map tD):=by
 rw[map_map];refine bR (List.range m) natD (tD ∘ nm1 L) (eN rfl (by omega)) (by rw[length_range];exact le_trans h6 (by decide)) λk hk=>?_
 have hk:=mem_range.mp hk;refine⟨_,rfl,.sh (tD (nm1 L k)),xA (s:=.own (.lst ((nm1 L k).map sgn))) ?_ rfl (by unfold nm1;rw[length_take];omega),rfl⟩
 refine(oG (x:=k+1) rfl rfl (ab rfl rfl (fE k 1)) (by rw[length_map];omega)).trans ?_
 unfold nm1;rw[map_take]
theorem F9{s5 s6 s7 s8 s9 s10:Option S}{L:List Nat}(hL:L.length=8):b3 [9] (b7 (eVar 2)) (aY 9) bf (dB dh (eC (.str "")) (dt (eVar 4) (some (eBin Ek (eC (.int 7)) (eVar 9))) none)) (rN ns m (some (.sh (wsD L))) s5 s6 s7 s8 s9 s10)=okL (((List.range m).map (nm2 L)).map tD):=by
 rw[map_map];refine bR (List.range m) natD (tD ∘ nm2 L) (eN rfl (by omega)) (by rw[length_range];exact le_trans h6 (by decide)) λk hk=>?_
 have hk:=mem_range.mp hk;refine⟨_,rfl,.sh (tD (nm2 L k)),xA (s:=.own (.lst ((nm2 L k).map sgn))) ?_ rfl (by unfold nm2;rw[length_drop];omega),rfl⟩
 refine(uI (x:=7 - k) rfl rfl (ab rfl rfl ?_) (by rw[length_map];omega)).trans ?_
 ·show okI (7 - (k:Int))=_;rw[show(7 - (k:Int))=((7 - k:Nat):Int) by omega]
 ·unfold nm2;rw[List.map_drop]
theorem F8{L:List Nat}(hL:L.length=8){sz at_:Nat}(s8':sz<=8)(ha:at_<sz){s5 s9 s10:Option S}:
  ∃s4 s9' s10':Option S,lV (b7 (eVar 2)) (aY 9) fI (rN ns m (some (.own (.lst (L.map sgn)))) s5 (some (.own (.lst []))) (some (.sh (natD sz))) (some (.sh (natD at_))) s9 s10)=some (.next (rN ns m s4 s5 (some (.own (.lst (((List.range m).map (nm3 L sz at_ (dn ns 12 26))).map tD)))) (some (.sh (natD sz))) (some (.sh (natD at_))) s9' s10')):=by
 obtain⟨ρ',e,s4,s9',s10',_,rfl⟩:=mr (bd:=aY 9) (body:=fI) natD (λk ρ=>∃s4 s9' s10':Option S,(s4=some (.own (.lst (L.map sgn)))\/s4=some (.sh (wsD L)))/\ρ=rN ns m s4 s5 (some (.own (.lst (((List.range k).map (nm3 L sz at_ (dn ns 12 26))).map tD)))) (some (.sh (natD sz))) (some (.sh (natD at_))) s9' s10') m
  (ρ:=rN ns m (some (.own (.lst (L.map sgn)))) s5 (some (.own (.lst []))) (some (.sh (natD sz))) (some (.sh (natD at_))) s9 s10) ⟨_,_,_,.inl rfl,rfl⟩ (by
  rintro k ρ hk ⟨s4,s9',s10',h4,rfl⟩
  have hd:=gX (ns:=ns) (k:=12) (m:=26) (by decide) (by decide)
  have hmod:(dn ns 12 26+3 * k) % 26<26:=Nat.mod_lt _ (by decide)
  have body:∀s4:Option S,(fI (rN ns m s4 s5 (some (.own (.lst (((List.range k).map (nm3 L sz at_ (dn ns 12 26))).map tD)))) (some (.sh (natD sz))) (some (.sh (natD at_))) (some (.sh (natD k))) s10')=(aC (sSet 10 (dt (eVar 4) none (some (eVar 7)))) gq) (dem 4 (rN ns m s4 s5 (some (.own (.lst (((List.range k).map (nm3 L sz at_ (dn ns 12 26))).map tD)))) (some (.sh (natD sz))) (some (.sh (natD at_))) (some (.sh (natD k))) s10'))):=λ_=>rfl;have hdem:dem 4 (rN ns m s4 s5 (some (.own (.lst (((List.range k).map (nm3 L sz at_ (dn ns 12 26))).map tD)))) (some (.sh (natD sz))) (some (.sh (natD at_))) (some (.sh (natD k))) s10')=rN ns m (some (.sh (wsD L))) s5 (some (.own (.lst (((List.range k).map (nm3 L sz at_ (dn ns 12 26))).map tD)))) (some (.sh (natD sz))) (some (.sh (natD at_))) (some (.sh (natD k))) s10':=by
   rcases h4 with rfl|rfl <;> rfl
  have e1:nm3 L sz at_ (dn ns 12 26) k=(L.take sz).set at_ (97+(dn ns 12 26+3 * k) % 26):=rfl;have st:(aC (sSet 10 (dt (eVar 4) none (some (eVar 7)))) gq) (rN ns m (some (.sh (wsD L))) s5 (some (.own (.lst (((List.range k).map (nm3 L sz at_ (dn ns 12 26))).map tD)))) (some (.sh (natD sz))) (some (.sh (natD at_))) (some (.sh (natD k))) s10')=some (.next (rN ns m (some (.sh (wsD L))) s5 (some (.own (.lst (((List.range (k+1)).map (nm3 L sz at_ (dn ns 12 26))).map tD)))) (some (.sh (natD sz))) (some (.sh (natD at_))) (some (.sh (natD k))) (some (.sh (wsD (nm3 L sz at_ (dn ns 12 26) k)))))):=by
   refine a8 (aM (oG (x:=sz) rfl rfl rfl (by rw[length_map];omega))) ?_
   rw[<-map_take];refine a8 (zD (j:=0) (k:=at_) (s:=.sh (sgn (97+(dn ns 12 26+3 * k) % 26))) (ab rfl (ab (ab (dC rfl (ab rfl rfl (fE 1 11)) rfl hd) (ab rfl rfl (BS (a:=3) (by decide))) (fE _ _)) rfl (jZ (by decide))) ?_) rfl rfl (by rw[length_map,length_take];omega)) ?_
   ·exact BY hmod
   ·show je (rN ns m (some (.sh (wsD L))) s5 (some (.own (.lst (((List.range k).map (nm3 L sz at_ (dn ns 12 26))).map tD)))) (some (.sh (natD sz))) (some (.sh (natD at_))) (some (.sh (natD k))) (some (.own (.lst (((L.take sz).map sgn).set at_ (sgn (97+(dn ns 12 26+3 * k) % 26)))))))=_;rw[<-List.map_set,<-e1];refine aN ((dD (s:=.sh (tD (nm3 L sz at_ (dn ns 12 26) k))) rfl (xA rfl rfl (by rw[e1,length_set,length_take];omega)) (by rw[length_map,length_map,length_range];exact lt_of_lt_of_le (lt_of_lt_of_le hk h6) (by decide))).trans ?_)
    rw[range_succ,map_append,map_append];rfl
  exact⟨_,_,rfl,(body s4).trans (by rw[hdem];exact st),_,_,_,.inr rfl,rfl⟩)
 exact⟨s4,s9',s10',nI (eN rfl (by omega)) e⟩
variable(h1:1<=m)
include h1
theorem BQ:∃nms:List (List Nat),fV [scD ns,natD 1,natD m]=okD (lsD nms)/\nms.length=m/\(∀w∈nms,NmOk w)/\nms.Nodup:=by
 have hL:=AN ns;have hc:=AM ns;have hw:b3 [9] (b7 (eC (.int 8))) (aY 9) bf (eBin dj (eVar 3) (au ax [(eVar 0),(eBin dAdd (eVar 1) (eVar 9)),(eC (.int 26))])) (rN ns m none none none none none none none)=okL ((oz ns).map sgn):=by
  unfold oz;rw[map_map];refine bR (List.range 8) natD _ (eN (n:=8) rfl (by omega)) (by decide) λk hk=>?_
  have hk:=mem_range.mp hk;exact⟨_,rfl,.sh (sgn (97+dn ns (1+k) 26)),ab rfl (dC rfl (ab rfl rfl (fE 1 k)) rfl (gX (m:=26) (by omega) (by decide))) (BY (iS (by decide))),rfl⟩
 have hst:=gX (ns:=ns) (k:=9) (m:=4) (by decide) (by decide)
 have hlt:=iS (ns:=ns) (k:=9) (m:=4) (by decide)
 have h6':dt (du [(eC (.str "row")),(eC (.str "open")),(eC (.str "here")),(eC (.str "main")),(eC (.str "is")),(eC (.str "box")),(eC (.str "plus")),(eC (.str "by"))]) none (some (eVar 2)) (rN ns m (some (.own (.lst ((oz ns).map sgn)))) (some (.sh (natD (dn ns 9 4)))) none none none none none)=okL ((stdN.take m).map tD):=by
  rw[map_take];exact oG Hj rfl rfl (by show m<=8;omega)
 generalize dn ns 9 4=st at *;have first:∀{r:S},kB (rN ns m (some (.own (.lst ((oz ns).map sgn)))) (some (.sh (natD st))) (some (.own (.lst ((stdN.take m).map tD)))) none none none none)=some (.ret r)->fV [scD ns,natD 1,natD m]=some (.ok r):=λh=>
  bq rfl (a8 (aM rfl) (a8 (aM hw) (a8 (aM (dC rfl (ab rfl rfl (fE 1 8)) rfl hst)) (a8 (aM h6') h))))
 have hs:st=0\/st=1\/st=2\/st=3:=by omega
 rcases hs with rfl|rfl|rfl|rfl
 ·obtain⟨a1,a2,a3⟩:=Fc h6;exact⟨_,first (a8 (b6 (ab rfl rfl (nc (by decide))) rfl) (a8 (b6 (ab rfl rfl (nc (by decide))) rfl) (a8 (b6 (ab rfl rfl (nc (by decide))) rfl) (aN (bX rfl))))),a3,a1,a2⟩
 ·obtain⟨a1,a2⟩:=G0 hL hc h6;exact⟨_,first (a8 (gT (ab rfl rfl (Ee (by decide))) (aN (aM (Fb h6 hL)))) (a8 (b6 (ab rfl rfl (nc (by decide))) rfl) (a8 (b6 (ab rfl rfl (nc (by decide))) rfl) (aN (bX rfl))))),by rw[length_map,length_range],a1,a2⟩
 ·obtain⟨a1,a2⟩:=FZ hL hc h6;exact⟨_,first (a8 (b6 (ab rfl rfl (nc (by decide))) rfl) (a8 (gT (ab rfl rfl (Ee (by decide))) (aN (aM (F9 h6 hL)))) (a8 (b6 (ab rfl rfl (nc (by decide))) rfl) (aN (bX rfl))))),by rw[length_map,length_range],a1,a2⟩
 ·have z1:=gX (ns:=ns) (k:=10) (m:=8) (by decide) (by decide)
  have z2:=iS (ns:=ns) (k:=10) (m:=8) (by decide)
  have z3:=gX (ns:=ns) (k:=11) (m:=1+dn ns 10 8) (by decide) (by omega)
  have z4:=iS (ns:=ns) (k:=11) (m:=1+dn ns 10 8) (by omega)
  obtain⟨a1,a2⟩:=FY (d:=dn ns 12 26) hL hc h6 (show 1<=1+dn ns 10 8 by omega) (show 1+dn ns 10 8<=8 by omega) z4
  obtain⟨s4,s9,s10,e⟩:=F8 (ns:=ns) h6 hL (show 1+dn ns 10 8<=8 by omega) z4 (s5:=some (.sh (natD 3))) (s9:=none) (s10:=none)
  exact⟨_,first (a8 (b6 (ab rfl rfl (nc (by decide))) rfl) (a8 (b6 (ab rfl rfl (nc (by decide))) rfl) (a8 (gT (ab rfl rfl (Ee (by decide))) (a8 (aM rfl) (a8 (aM (ab rfl (dC rfl (ab rfl rfl (fE 1 9)) rfl z1) (fE 1 _))) (a8 (aM (dC rfl (ab rfl rfl (fE 1 10)) rfl z3)) e)))) (aN (bX rfl))))),by rw[length_map,length_range],a1,a2⟩
end
theorem Ib(a b:List Nat):Ab (tD a) (tD b)=decide (a=b):=by
 show(T a == T b)=_;rw[Bool.eq_iff_iff,beq_iff_eq,decide_eq_true_iff];exact⟨wm,λe=>by rw[e]⟩
theorem Ca(w:List Nat):∀ws:List (List Nat),wt (tD w) (ws.map tD)=decide (w∈ws)
 |[]=>rfl
 |v::ws=>by
  show(Ab (tD v) (tD w) || wt (tD w) (ws.map tD))=_;rw[Ib,Ca w ws,Bool.eq_iff_iff,Bool.or_eq_true,decide_eq_true_iff,decide_eq_true_iff,decide_eq_true_iff,mem_cons,eq_comm (a:=v)]
theorem xH:∀ws:List (List Nat),(ws.map tD).all flat=true
 |[]=>rfl
 |_::ws=>by show(true && (ws.map tD).all flat)=true;rw[xH ws];rfl
theorem pj{w:List Nat}{ws:List (List Nat)}:dIn false (tD w) (lsD ws)=okB (decide (w∈ws)):=by
 show(if flat (tD w)=true/\(ws.map tD).all flat=true then okB (wt (tD w) (ws.map tD)) else none)=_;rw[if_pos ⟨rfl,xH ws⟩,Ca]
theorem vi{w:List Nat}{ws:List (List Nat)}:dIn true (tD w) (.tup (ws.map tD))=okB (!decide (w∈ws)):=by
 show(if flat (tD w)=true/\(ws.map tD).all flat=true then okB (!wt (tD w) (ws.map tD)) else none)=_;rw[if_pos ⟨rfl,xH ws⟩,Ca]
theorem uo:∀ws:List (List Nat),cB (ws.map tD)=true
 |[]=>by unfold cB;rfl
 |_::ws=>by
  show cB (D.str _::ws.map tD)=true;unfold cB jc;rw[uo ws];rfl
theorem HY{w:List Nat}{ws:List (List Nat)}{j:Nat}(nd:ws.Nodup)(h:ws[j]?=some w):(ws.map T).idxOf? (T w)=some j:=by
 refine List.idxOf?_eq_some_iff.mpr ?_;obtain⟨hj,e⟩:=List.getElem?_eq_some_iff.mp h;refine⟨by rw[length_map];exact hj,by rw[getElem_map,e],λi hi=>?_⟩
 rw[getElem_map];intro z;have z:=wm z;have:=List.pairwise_iff_getElem.mp nd i j (by omega) hj hi
 exact this (z.trans e.symm)
theorem Bt{w:List Nat}{ws:List (List Nat)}{j:Nat}(nd:ws.Nodup)(h:ws[j]?=some w):dP [lsD ws,tD w]=okI (j:Nat):=by
 refine bq rfl (bX (yN (ab rfl rfl (pj.trans (by rw[decide_eq_true (List.mem_of_getElem? h)]))) ?_))
 show pG (lsD ws) (tD w)=_;show(gg (ws.map tD)).bind (λzs=>(zs.idxOf? (T w)).bind λj=>okI (j:Nat))=_;rw[show ws.map tD=(ws.map T).map D.str by rw[map_map];rfl,iX]
 show((ws.map T).idxOf? (T w)).bind _=_;rw[HY nd h];rfl
structure Rd where
 bells:List (List Nat×Nat)
 rows:List (List (Nat×Nat))
 st:List Nat
def b5:List Nat:=[115,116,105,108,108]
def wMain:List Nat:=[109,97,105,110]
def pM(b:List Nat×Nat):D:=.tup [tD b.1,natD b.2]
def plD(p:Nat×Nat):D:=.tup [.tup [tD b5,natD p.1],natD p.2]
def Aa:List Str:=["boxes","bells","rows","stretches"]
def dZ(rs:List (List (Nat×Nat))):List D:=rs.map λx=>D.lst (x.map plD)
def Rd.ts(r:Rd):List Tr:=[.lst [],.lst ((r.bells.map pM).map .sh),.lst (r.rows.map λx=>.lst ((x.map plD).map .sh)),.lst ((r.st.map natD).map .sh)]
def Rd.tr(r:Rd):Tr:=.ins "Reader" Aa r.ts
def Rd.d(r:Rd):D:=.obj "Reader" Aa [.lst [],.lst (r.bells.map pM),.lst (dZ r.rows),.lst (r.st.map natD)]
theorem o4:∀ds:List D,Tr.vals (ds.map .sh)=ds
 |[]=>by unfold Tr.vals;rfl
 |d::ds=>by
  show Tr.vals (.sh d::ds.map .sh)=_;unfold Tr.vals Tr.val;rw[o4 ds]
theorem qD:∀rs:List (List (Nat×Nat)),Tr.vals (rs.map λx=>.lst ((x.map plD).map .sh))=dZ rs
 |[]=>by unfold Tr.vals;rfl
 |x::rs=>by
  show Tr.vals (.lst ((x.map plD).map .sh)::rs.map λx=>.lst ((x.map plD).map .sh))=_;unfold Tr.vals Tr.val;rw[qD rs,o4];rfl
theorem Rd.val(r:Rd):r.tr.val=r.d:=by
 unfold Rd.tr Rd.d Rd.ts;simp only[Tr.val,Tr.vals];rw[o4,o4,qD]
section
variable{ρ:aA}{i:Nat}{g e:ME}{o:O}{t:Tr}{d:D}{c:Vg}{ns:List Str}{ts us:List Tr}{k:Nat}{f:Str}{s:S}{cs:List Vg}
theorem uq(h:ρ[i]?=some (some (.own o)))(hc:o.core=.tre t):f9 i ρ=some (o,t):=by
 unfold f9;rw[h];dsimp only;rw[hc]
theorem gf(h:f9 i ρ=some (o,t))(hg:g (ρ.set i (some (.sh t.val)))=okD d)(ht:jc d=true):cj i g ρ=okD d:=by
 unfold cj;rw[h];show(g (ρ.set i (some (.sh t.val)))).bind uh=_;rw[hg];exact if_pos ht
theorem CS{ds:List D}(h:f9 i ρ=some (o,t))(hg:g (ρ.set i (some (.sh t.val)))=okL ds)(ht:cB ds=true):cj i g ρ=okL ds:=by
 unfold cj;rw[h];show(g (ρ.set i (some (.sh t.val)))).bind uh=_;rw[hg];exact if_pos ht
theorem Cs(h:f9 i ρ=some (o,.ins c ns ts))(hc:cs.contains c=true)(hf:uc f ns=some k)(hk:ts[k]?=some (.lst us))(he:e (ρ.set i none)=some (.ok s))(hl:us.length<lim):
  oK cs i f e ρ=some (.next (ρ.set i (some (.own (o.put (.tre (.ins c ns (ts.set k (.lst (us++[.sh s.val]))))))))))  := by
 unfold oK;rw[h];dsimp only[Option.bind_some];rw[if_pos hc,hf];dsimp only[Option.bind_some];rw[hk,he];dsimp only;rw[if_pos hl]
theorem Gr(h:f9 i ρ=some (o,.ins c ns ts))(hc:cs.contains c=true)(hf:uc f ns=some k)(hk:ts[k]?=some (.lst (us++[.sh d]))):
  qO cs i f ρ=some (.next (ρ.set i (some (.own (o.put (.tre (.ins c ns (ts.set k (.lst us))))))))):=by
 unfold qO;rw[h];dsimp only[Option.bind_some];rw[if_pos hc,hf];dsimp only[Option.bind_some];rw[hk];dsimp only;rw[List.getLast?_concat,List.dropLast_concat]
theorem Ec{ds:List D}(h:f9 i ρ=some (o,.ins c ns ts))(hc:cs.contains c=true)(hf:uc f ns=some k)(hk:ts[k]?=some (.lst us))(he:e (ρ.set i none)=okL ds)(hl:us.length<lim):
  mP cs i f e ρ=some (.next (ρ.set i (some (.own (o.put (.tre (.ins c ns (ts.set k (.lst (us++[.lst (ds.map .sh)])))))))))):=by
 unfold mP;rw[h];dsimp only[Option.bind_some];rw[if_pos hc,hf];dsimp only[Option.bind_some];rw[hk,he];dsimp only;rw[if_pos hl]
theorem Ed{ws:List Tr}(h:f9 i ρ=some (o,.ins c ns ts))(hc:cs.contains c=true)(hf:uc f ns=some k)(hk:ts[k]?=some (.lst (us++[.lst ws])))(he:e (ρ.set i none)=some (.ok s))(hl:ws.length<lim):
  mQ cs i f e ρ=some (.next (ρ.set i (some (.own (o.put (.tre (.ins c ns (ts.set k (.lst (us++[.lst (ws++[.sh s.val])]))))))))))  := by
 unfold mQ;rw[h];dsimp only[Option.bind_some];rw[if_pos hc,hf];dsimp only[Option.bind_some];rw[hk,he];dsimp only;rw[show(us++[Tr.lst ws])[(us++[Tr.lst ws]).length - 1]?=some (.lst ws) by rw[length_append,length_singleton,Nat.add_sub_cancel,List.getElem?_append_right (le_refl _),sub_self];rfl]
 dsimp only;rw[if_pos hl,length_append,length_singleton,Nat.add_sub_cancel,List.set_append_right _ _ (le_refl _),sub_self];rfl
theorem oN{j a:Nat}{o:O}(he:e ρ=some (.ok s))(h:ρ[j]?=some (some (.own (.par a o)))):gE j e ρ=some (.ret (.two s.val a o)):=by
 unfold gE;rw[he];dsimp only[h7];rw[h]
theorem iK{j a:Nat}{o:O}:m9 j a (some (.ret (.two d a o)))=some (d,o):=by unfold m9;dsimp only;rw[if_pos rfl]
theorem Fn{j a:Nat}{o:O}{g:MP}{ρ':aA}(h:g ρ=some (d,ρ'))(hp:ρ'[j]?=some (some (.own (.par a o)))):kD j g ρ=some (.ret (.two d a o)):=by
 unfold kD;rw[h];dsimp only[Option.bind_some];rw[hp]
theorem yB{m:Str}{F:MF}{gs:List ME}{es:List D}{o':O}(h:ρ[i]?=some (some (.own o)))(hc:o.core=.tre (.ins c ns ts))(hn:ns.contains m=false)(hg:fD gs ρ=some es)(hF:F (.tre (.ins c ns ts)) [] es=some (d,o')):
  gj c i m F gs ρ=some (d,ρ.set i (some (.own (o.put o')))):=by
 unfold gj;rw[uq h hc];dsimp only[Option.bind_some];rw[if_pos ⟨rfl,hn⟩];unfold yE;rw[h];dsimp only;show((fD gs ρ).bind λes=>(F o.core [] es).map λp=>(p.1,ρ.set i (some (.own (o.put p.2)))))=_;rw[hg];dsimp only[Option.bind_some];rw[hc,hF];rfl
end
theorem Cr:uc "bells" Aa=some 1:=by decide +kernel
theorem yP:uc "rows" Aa=some 2:=by decide +kernel
theorem EY:uc "stretches" Aa=some 3:=by decide +kernel
theorem vD{ds:List D}{d:D}:dj (.lst (ds++[d])) (.int (-1))=okD d:=by
 show(rJ (ds++[d]) (-1)).bind okD=_;unfold rJ AF;rw[if_neg (by decide),if_pos (by rw[length_append,length_singleton];omega)]
 dsimp only[Option.bind_some];rw[show(-1+((ds++[d]).length:Int)).toNat=ds.length by rw[length_append,length_singleton];omega,List.getElem?_append_right (le_refl _),sub_self]
 rfl
section
variable{r:Rd}{ρ:aA}{g:ME}
theorem fld_boxes(h:g ρ=okD r.d):dH (cS ["Reader"] "boxes") g ρ=okD (.lst []):=zr h rfl
theorem fld_bells(h:g ρ=okD r.d):dH (cS ["Reader"] "bells") g ρ=okD (.lst (r.bells.map pM)):=zr h rfl
theorem fld_rows(h:g ρ=okD r.d):dH (cS ["Reader"] "rows") g ρ=okD (.lst (dZ r.rows)):=zr h rfl
theorem tG(h:g ρ=okD r.d):dH (cS ["Reader"] "stretches") g ρ=okD (.lst (r.st.map natD)):=zr h rfl
end
def Rd.nms(r:Rd):List (List Nat):=wMain::r.bells.map (·.1)
theorem BR{r:Rd}(h:r.bells.length<=6):aU [r.d]=okL (r.nms.map tD):=by
 have e:Str.ofString "main" = T wMain:=by decide +kernel
 have c:b3 [1] (fB (dH (cS ["Reader"] "bells") (eVar 0))) (aY 1) bf (eBin dj (eVar 1) (eC (.int 0))) [some (.sh r.d),none]=okL ((r.bells.map (·.1)).map tD):=by
  rw[map_map];exact bR r.bells pM (tD ∘ (·.1)) (iz (fld_bells rfl) rfl) (le_trans h (by decide)) λb _=>⟨_,rfl,.sh (tD b.1),ab rfl rfl pf,rfl⟩
 refine bq rfl (bX (ab (s:=.own (.lst [.str (Str.ofString "main")])) rfl c ?_));show dAdd (.lst [.str (Str.ofString "main")]) (.lst ((r.bells.map (·.1)).map tD))=_;rw[mC (by rw[length_map,length_map,length_singleton];omega),e]
 rfl
theorem Bh{r:Rd}{ρ:aA}{g:ME}(h:r.bells.length<=6)(hg:g ρ=okD r.d):eF "row_names" aL g [] ρ=okL (r.nms.map tD):=
 yC (s:=.sh r.d) hg rfl (by decide +kernel) ki (BR h)
theorem ig{α β:Type}(f:α->β)(l:List α):(l.map f).isEmpty=l.isEmpty:=by cases l <;> rfl
def Rd.rests(r:Rd):Prop:=r.rows=[]\/∃q x,r.rows=q++[x]/\x≠[]/\r.st=[]
theorem G5{r:Rd}(h:r.rests):bV [r.d]=okB true:=by
 refine bq rfl (bX ?_);rcases h with h|⟨q,x,h,hx,hs⟩
 ·exact Ji (ab (fld_rows (r:=r) rfl) (s:=.sh (.lst (dZ r.rows))) (t:=.own (.lst [])) rfl (by rw[h];rfl))
 ·have e:dZ r.rows=dZ q++[D.lst (x.map plD)]:=by rw[h];unfold dZ;rw[map_append];rfl
  refine nU (ab (fld_rows (r:=r) rfl) (s:=.sh (.lst (dZ r.rows))) (t:=.own (.lst [])) rfl ?_) (jR (ab (s:=.sh (D.lst (x.map plD))) (t:=.own (.lst [])) (ab (fld_rows (r:=r) rfl) (s:=.sh (.lst (dZ r.rows))) rfl ?_) rfl ?_) (ab (tG (r:=r) rfl) (s:=.sh (.lst (r.st.map natD))) (t:=.own (.lst [])) rfl ?_))
  ·show okB (dZ r.rows).isEmpty=_;rw[e];cases dZ q <;> rfl
  ·show dj (.lst (dZ r.rows)) (.int (-1))=_;rw[e];exact vD
  ·show okB (!(x.map plD).isEmpty)=_;rw[ig];cases x with
   |nil=>exact absurd rfl hx
   |cons _ _=>rfl
  ·show okB (r.st.map natD).isEmpty=_;rw[hs];rfl
theorem HP{r:Rd}{ρ:aA}{g:ME}(h:r.rests)(hg:g ρ=okD r.d):eF "may_end" dJ g [] ρ=okB true:=
 yC (s:=.sh r.d) hg rfl (by decide +kernel) lM (G5 h)
def gD:List Nat:=[98,101,108,108]
def mJ:List Nat:=[114,111,119]
def wShut:List Nat:=[115,104,117,116]
def hZ:List Nat:=[111,112,101,110]
theorem Fi:Str.ofString "bell" = T gD:=by decide +kernel
theorem EJ:Str.ofString "row" = T mJ:=by decide +kernel
theorem Fg:Str.ofString "shut" = T wShut:=by decide +kernel
theorem wM:Str.ofString "open" = T hZ:=by decide +kernel
theorem lT:Str.ofString "still" = T b5:=by decide +kernel
theorem Jq{n:Nat}(h:n<=9):nJ (tD [48+n])=okI (n:Nat):=by
 have e:PySem.intText? (T [48+n])=some ((valF 0 [48+n]:Nat):Int):=PySem.intText_digits (x:=T [48+n]) (λc hc=>by have z:c=48+n:=mem_singleton.mp hc;rw[z];omega) (cons_ne_nil _ _) (by rw[gv];show 1<=4300;decide)
 show(if(T [48+n]).length<=640 then(PySem.intText? (T [48+n])).bind λn=>okI n else none)=_;rw[if_pos (by rw[gv];show 1<=640;decide),e]
 show okI ((0 * 10+(48+n - 48):Nat):Int)=_;rw[show 0 * 10+(48+n - 48)=n by omega]
theorem Ii{ρ:aA}{F:List D->Option R}{r:Option R}(h:F []=r):au F [] ρ=r:=by unfold au cZ;exact h
def uU:List (List Nat):=(List.range 9).map λk=>[49+k]
theorem De:[D.str (Str.ofString "1"),.str (Str.ofString "2"),.str (Str.ofString "3"),.str (Str.ofString "4"),.str (Str.ofString "5"),.str (Str.ofString "6"),.str (Str.ofString "7"),.str (Str.ofString "8"),.str (Str.ofString "9")]=uU.map tD:=by
 have e:[Str.ofString "1",Str.ofString "2",Str.ofString "3",Str.ofString "4",Str.ofString "5",Str.ofString "6",Str.ofString "7",Str.ofString "8",Str.ofString "9"]=uU.map T:=by decide +kernel
 rw[show uU.map tD=(uU.map T).map D.str by rw[map_map];rfl,<-e]
 rfl
theorem Df{n:Nat}(h1:1<=n)(h9:n<=9):[48+n]∈uU:=mem_map.mpr ⟨n - 1,mem_range.mpr (by omega),by show[49+(n - 1)]=[48+n];rw[show 49+(n - 1)=48+n by omega]⟩
abbrev ρ2(a:Nat)(r:Rd)(ws:List (List Nat)):aA:=[some (.own (.par a (.tre r.tr))),some (.sh (lsD ws))]
theorem p9{ws:List (List Nat)}:cm (lsD ws)=okI (ws.length:Nat):=by show okI ((ws.map tD).length:Int)=_;rw[length_map]
theorem vF(rs:List (List (Nat×Nat))):cm (.lst (dZ rs))=okI (rs.length:Nat):=by show okI ((dZ rs).length:Int)=_;unfold dZ;rw[length_map]
theorem kd{α:Type}(f:α->D)(l:List α):cm (.lst (l.map f))=okI (l.length:Nat):=by show okI ((l.map f).length:Int)=_;rw[length_map]
theorem rT{r:Rd}{w:List Nat}{k:Nat}(hr:r.rows=[])(hb:r.bells.length<6)(hw:NmOk w)(hn:w∉r.nms)(k1:1<=k)(k9:k<=9):
  cN (.tre r.tr) [] [lsD [gD,w,[48+k]]]=some (.bl true,.tre (Rd.tr ⟨r.bells++[(w,k)],r.rows,r.st⟩)):=rg rfl rfl λa=>by
 have v:f9 0 (ρ2 a r [gD,w,[48+k]])=some (.par a (.tre r.tr),r.tr):=uq rfl rfl;have c1:cj 0 (kJ (eBin tO (dH (cS ["Reader"] "rows") (eVar 0)) (du [])) (kJ (eBin dEq (aJ (f1 cm) [(dH (cS ["Reader"] "bells") (eVar 0))]) (eC (.int (6)))) (eBin qx (aJ (f1 cm) [(eH 1)]) (eC (.int 3))))) (ρ2 a r [gD,w,[48+k]])=okB false:=by
  refine gf v ?_ rfl;rw[Rd.val];refine nU (ab (t:=.own (.lst [])) (fld_rows (r:=r) rfl) rfl (by rw[hr];rfl)) (nU (ab (iy (fld_bells (r:=r) rfl) (kd _ _)) rfl (nc (by omega))) (ab (iy (iU rfl) rfl) rfl (G1 rfl)))
 have c2:cj 0 (kJ (pD (au iR [(eBin dj (eVar 1) (eC (.int 1)))])) (kJ (eBin (dIn false) (eBin dj (eVar 1) (eC (.int 1))) (eF "row_names" aL (eVar 0) [])) (eBin (dIn true) (eBin dj (eVar 1) (eC (.int 2))) (eC (.tup [(.str "1"),(.str "2"),(.str "3"),(.str "4"),(.str "5"),(.str "6"),(.str "7"),(.str "8"),(.str "9")]))))) (ρ2 a r [gD,w,[48+k]])=okB false:=by
  refine gf v ?_ rfl;rw[Rd.val];refine nU (yz (cI (ab rfl rfl C6) ((DP (by have:=hw.l8;omega)).trans (by rw[hw.due])))) (nU (ab (ab rfl rfl C6) (Bh (by omega) rfl) (pj.trans (by rw[decide_eq_false hn]))) (ab (ab rfl rfl ET) rfl ?_))
  show dIn true (tD [48+k]) (.tup _)=_;refine(congrArg (λl=>dIn true (tD [48+k]) (.tup l)) De).trans (vi.trans ?_);rw[decide_eq_true (Df k1 k9)];rfl
 have e3:gn [(eBin dj (eVar 1) (eC (.int 1))),(au (f1 nJ) [(eBin dj (eVar 1) (eC (.int 2)))])] ((ρ2 a r [gD,w,[48+k]]).set 0 none)=okD (pM (w,k)):=oB (s1:=.sh (tD w)) (s2:=.sh (natD k)) (ab rfl rfl C6) (cI (ab rfl rfl ET) (Jq k9));have m:gR (ρ2 a r [gD,w,[48+k]])=some (.ret (.two (.bl true) a (.tre (Rd.tr ⟨r.bells++[(w,k)],r.rows,r.st⟩)))):=by
  refine a8 (b6 c1 rfl) (a8 (b6 c2 rfl) (a8 (Cs (us:=(r.bells.map pM).map .sh) v rfl Cr rfl e3 (by rw[length_map,length_map];exact lt_of_lt_of_le hb (by decide))) ?_))
  refine(oN (s:=.sh (.bl true)) rfl rfl).trans ?_;unfold Rd.tr Rd.ts;rw[map_append,map_append];rfl
 exact(congrArg (m9 0 a) m).trans iK
theorem rh(x:Str):pU 1 (.str x) (.str x)=some true:=by
 show some (x == x)=_;rw[beq_self_eq_true]
theorem uu{r:Rd}{w:List Nat}(hb:r.bells.length<=6)(h:r.nms[r.rows.length]?=some w)(he:r.rests):
  cX (.tre r.tr) [] [lsD [mJ,w]]=some (.bl true,.tre (Rd.tr ⟨r.bells,r.rows++[[]],r.st⟩)):=rg rfl rfl λa=>by
 have hl:r.rows.length<r.nms.length:=(List.getElem?_eq_some_iff.mp h).1;have hnl:r.nms.length=r.bells.length+1:=by unfold Rd.nms;rw[length_cons,length_map]
 have v0:∀s2 s3:Option S,f9 0 [some (.own (.par a (.tre r.tr))),some (.sh (lsD [mJ,w])),s2,s3]=some (.par a (.tre r.tr),r.tr):=λ_ _=>uq rfl rfl;have e1:cj 0 (eF "row_names" aL (eVar 0) []) [some (.own (.par a (.tre r.tr))),some (.sh (lsD [mJ,w])),none,none]=okL (r.nms.map tD):=by
  refine CS (v0 _ _) ?_ (uo _);rw[Rd.val];exact Bh hb rfl
 have e2:∀s2:Option S,cj 0 (aJ (f1 cm) [(dH (cS ["Reader"] "rows") (eVar 0))]) [some (.own (.par a (.tre r.tr))),some (.sh (lsD [mJ,w])),s2,none]=okI (r.rows.length:Nat):=λs2=>by
  refine gf (v0 _ _) ?_ rfl;rw[Rd.val];exact iy (fld_rows (r:=r) rfl) (vF _)
 have c:cj 0 (kJ (eBin dEq (eVar 3) (aJ (f1 cm) [(eH 2)])) (kJ (pD (eF "may_end" dJ (eVar 0) [])) (eBin (Cz 1) (eVar 1) (du [(eC (.str "row")),(eBin dj (eVar 2) (eVar 3))])))) [some (.own (.par a (.tre r.tr))),some (.sh (lsD [mJ,w])),some (.sh (lsD r.nms)),some (.sh (natD r.rows.length))]=okB false:=by
  refine gf (v0 _ _) ?_ rfl;rw[Rd.val];refine nU (ab rfl (iy (iU rfl) p9) (nc (by omega))) (nU (yz (HP he rfl)) (ab rfl (gZ rfl (ab rfl rfl (lC (by rw[getElem?_map,h];rfl))) rfl) ?_))
  show Cz 1 (.lst [tD mJ,tD w]) (.lst [.str (Str.ofString "row"),tD w])=_;rw[EJ];show((pU 1 (tD mJ) (tD mJ)).bind λb=>(((pU 1 (tD w) (tD w)).bind λb=>(some true).bind λc=>some (b && c)).bind λc=>some (b && c))).bind (λb=>okB (!b))=_;rw[rh,rh];rfl
 have m:ib [some (.own (.par a (.tre r.tr))),some (.sh (lsD [mJ,w])),none,none]=some (.ret (.two (.bl true) a (.tre (Rd.tr ⟨r.bells,r.rows++[[]],r.st⟩)))):=by
  refine a8 (aM e1) (a8 (aM (e2 _)) (aN (a8 (b6 c rfl) (a8 (Ec (us:=r.rows.map λx=>.lst ((x.map plD).map .sh)) (v0 _ _) rfl yP rfl (Ii rfl) (by rw[length_map];exact lt_of_lt_of_le (show r.rows.length<10 by omega) (by decide))) ?_))))
  refine(oN (s:=.sh (.bl true)) rfl rfl).trans ?_;unfold Rd.tr Rd.ts;rw[map_append];rfl
 exact(congrArg (m9 0 a) m).trans iK
theorem uv{r:Rd}{q:List Nat}{x:Nat}(h:r.st=q++[x]):
  cY (.tre r.tr) [] [lsD [hZ]]=some (.bl true,.tre (Rd.tr ⟨r.bells,r.rows,q⟩)):=rg rfl rfl λa=>by
 have v:f9 0 (ρ2 a r [hZ])=some (.par a (.tre r.tr),r.tr):=uq rfl rfl;have c1:cj 0 (kJ (eBin qx (aJ (f1 cm) [(eH 1)]) (eC (.int 1))) (eBin gY (dH (cS ["Reader"] "stretches") (eVar 0)) (du []))) (ρ2 a r [hZ])=okB false:=by
  refine gf v ?_ rfl;rw[Rd.val];refine nU (ab (iy (iU rfl) rfl) rfl (G1 rfl)) (ab (t:=.own (.lst [])) (tG (r:=r) rfl) rfl ?_);show okB (r.st.map natD).isEmpty=_;rw[ig,h];cases q <;> rfl
 have m:ic (ρ2 a r [hZ])=some (.ret (.two (.bl true) a (.tre (Rd.tr ⟨r.bells,r.rows,q⟩)))):=by
  refine a8 (b6 c1 rfl) (a8 (Gr (us:=(q.map natD).map .sh) (d:=natD x) v rfl EY ?_) ?_)
  ·show some (Tr.lst ((r.st.map natD).map .sh))=_;rw[h,map_append,map_append];rfl
  ·exact oN (s:=.sh (.bl true)) rfl rfl
 exact(congrArg (m9 0 a) m).trans iK
def orW(js:List Nat):Nat:=js.foldl (λw j=>w ||| 2 ^ j) 0
def CO(ws:List Nat):Nat:=ws.foldl (λw x=>w ||| x) 0
def D5(js:List Nat):Int:=((eY (js.map λj:Nat=>(j:Int))).map λn=>2 ^ n.toNat).sum
theorem F7{js:List Nat}(h0:js≠[])(h3:js.length<=3)(h:∀j∈js,j<=6):D5 js=(orW js:Nat):=by
 have h1:∀a<7,D5 [a]=(orW [a]:Nat):=by decide +kernel
 have h2:∀a<7,∀b<7,D5 [a,b]=(orW [a,b]:Nat):=by decide +kernel
 have h3':∀a<7,∀b<7,∀c<7,D5 [a,b,c]=(orW [a,b,c]:Nat):=by decide +kernel
 match js,h0,h3,h with
 |[],h0,_,_=>exact absurd rfl h0
 |[a],_,_,h=>exact h1 a (by have:=h a (by simp);omega)
 |[a,b],_,_,h=>exact h2 a (by have:=h a (by simp);omega) b (by have:=h b (by simp);omega)
 |[a,b,c],_,_,h=>exact h3' a (by have:=h a (by simp);omega) b (by have:=h b (by simp);omega) c (by have:=h c (by simp);omega)
 |_::_::_::_::_,_,h3,_=>simp at h3
theorem vK{p:Int->Prop}{k:Int}(hk:p k):∀{l:List Int},(∀x∈l,p x)->∀x∈insD k l,p x
 |[],_,x,hx=>by unfold insD at hx;rw[mem_singleton.mp hx];exact hk
 |y::l,h,x,hx=>by
  unfold insD at hx;split at hx
  ·rcases mem_cons.mp hx with rfl|hx
   ·exact hk
   ·exact h x hx
  ·split at hx
   ·exact h x hx
   ·rcases mem_cons.mp hx with rfl|hx
    ·exact h _ mem_cons_self
    ·exact vK hk (λz hz=>h z (mem_cons_of_mem _ hz)) x hx
theorem qK{p:Int->Prop}:∀{l:List Int},(∀x∈l,p x)->∀x∈eY l,p x
 |[],_,x,hx=>by cases hx
 |y::l,h,x,hx=>vK (h y mem_cons_self) (qK λz hz=>h z (mem_cons_of_mem _ hz)) x hx
theorem vJ(k:Int):∀l:List Int,(insD k l).length<=l.length+1
 |[]=>le_refl _
 |y::l=>by
  unfold insD;split
  ·exact le_refl _
  ·split
   ·exact Nat.le_succ _
   ·have:=vJ k l;rw[length_cons,length_cons];omega
theorem qJ:∀l:List Int,(eY l).length<=l.length
 |[]=>le_refl _
 |y::l=>le_trans (vJ y (eY l)) (Nat.succ_le_succ (qJ l))
theorem Gs{js:List Nat}(h3:js.length<=3)(h:∀j∈js,j<=6):fewD (js.map λj:Nat=>(j:Int))=true:=by
 unfold fewD;rw[Bool.and_eq_true];refine⟨decide_eq_true (by rw[length_map];omega),all_eq_true.mpr λx hx=>?_⟩
 obtain⟨j,hj,rfl⟩:=mem_map.mp hx;have:=h j hj;rw[decide_eq_true (by omega),decide_eq_true (by omega)]
 rfl
theorem vj:∀js:List Nat,wt .non (js.map natD)=false
 |[]=>rfl
 |_::js=>by show(false || wt .non (js.map natD))=false;rw[vj js];rfl
theorem ug:∀{js:List Nat},(∀j∈js,1<=j)->wt (.int 0) (js.map natD)=false
 |[],_=>rfl
 |j::js,h=>by
  show(((j:Int) == 0) || wt (.int 0) (js.map natD))=false;rw[ug λx hx=>h x (mem_cons_of_mem _ hx),Bool.or_false];have:=h j mem_cons_self;exact beq_eq_false_iff_ne.mpr (by omega)
theorem pA:∀js:List Nat,(js.map natD).all flat=true
 |[]=>rfl
 |_::js=>by show(true && (js.map natD).all flat)=true;rw[pA js];rfl
theorem rR{r:Rd}{js:List Nat}(hb:r.bells.length<=6)(nd:r.nms.Nodup)(h0:js≠[])(h3:js.length<=3)(h:∀j∈js,1<=j/\j<r.nms.length)(hs:r.st.length<12):
  cL (.tre r.tr) [] [lsD (wShut::js.map λj=>r.nms.getD j [])]=some (.bl true,.tre (Rd.tr ⟨r.bells,r.rows,r.st++[orW js]⟩)):=rg rfl rfl λa=>by
 have hnl:r.nms.length=r.bells.length+1:=by unfold Rd.nms;rw[length_cons,length_map]
 have h6:∀j∈js,j<=6:=λj hj=>by have:=(h j hj).2;omega
 generalize hws:(wShut::js.map λj=>r.nms.getD j [])=ws;have v0:∀s2 s3 s4:Option S,f9 0 [some (.own (.par a (.tre r.tr))),some (.sh (lsD ws)),s2,s3,s4]=some (.par a (.tre r.tr),r.tr):=λ_ _ _=>uq rfl rfl;have e1:b3 [3] (fB (dt (eVar 1) (some (eC (.int 1))) none)) (aY 3) bf (cj 0 (au dP [(eF "row_names" aL (eVar 0) []),(eVar 3)])) [some (.own (.par a (.tre r.tr))),some (.sh (lsD ws)),none,none,none]=okL (js.map natD):=by
  refine bR js (λj=>tD (r.nms.getD j [])) natD (iz (uI (x:=1) (s:=.sh (lsD ws)) rfl rfl rfl ?_) ?_) (le_trans h3 (by decide)) λj hj=>⟨_,rfl,.sh (natD j),?_,rfl⟩
  ·rw[<-hws];simp
  ·rw[<-hws];show some (List.drop 1 (tD wShut::(js.map λj=>r.nms.getD j []).map tD))=_;rw[map_map];rfl
  ·refine gf (v0 _ _ _) ?_ rfl;rw[Rd.val];have hj2:=(h j hj).2;exact gZ (Bh hb rfl) rfl (Bt nd (by rw[getD_eq_getElem?_getD,getElem?_eq_getElem hj2];rfl))
 have c:cj 0 (kJ (eBin gY (eVar 2) (du [])) (kJ (eBin (dIn false) (eC .non) (eVar 2)) (kJ (eBin (dIn false) (eC (.int 0)) (eVar 2)) (eBin dEq (aJ (f1 cm) [(dH (cS ["Reader"] "stretches") (eVar 0))]) (eC (.int (12))))))) [some (.own (.par a (.tre r.tr))),some (.sh (lsD ws)),some (.sh (.lst (js.map natD))),none,none]=okB false:=by
  refine gf (v0 _ _ _) ?_ rfl;rw[Rd.val];refine nU (ab (t:=.own (.lst [])) rfl rfl ?_) (nU (ab rfl rfl ?_) (nU (ab rfl rfl ?_) (ab (iy (tG (r:=r) rfl) (kd _ _)) rfl (nc (by omega)))))
  ·show okB (js.map natD).isEmpty=_;rw[ig];cases js with
   |nil=>exact absurd rfl h0
   |cons _ _=>rfl
  ·show(if flat .non=true/\(js.map natD).all flat=true then okB (wt .non (js.map natD)) else none)=_;rw[if_pos ⟨rfl,pA js⟩,vj]
  ·show(if flat (.int 0)=true/\(js.map natD).all flat=true then okB (wt (.int 0) (js.map natD)) else none)=_;rw[if_pos ⟨rfl,pA js⟩,ug λj hj=>(h j hj).1]
 have hsort:my (.lst (js.map natD))=okL ((eY (js.map λj:Nat=>(j:Int))).map D.int):=by
  show(intsOf (js.map natD)).bind _=_;rw[show js.map natD=(js.map λj:Nat=>(j:Int)).map D.int by rw[map_map];rfl,vI]
  exact if_pos (Gs h3 h6)
 have hall:∀x∈eY (js.map λj:Nat=>(j:Int)),0<=x/\x<=6:=qK λx hx=>by
  obtain⟨j,hj,rfl⟩:=mem_map.mp hx;have:=h6 j hj;omega
 have hlen:(eY (js.map λj:Nat=>(j:Int))).length<=3:=le_trans (qJ _) (by rw[length_map];exact h3)
 have e2:au (f1 Gw) [(b3 [4] (fB (dH my (eVar 2))) (aY 4) bf (eBin xQ (eC (.int 1)) (eVar 4)))] [none,some (.sh (lsD ws)),some (.sh (.lst (js.map natD))),none,none]=okD (natD (orW js)):=by
  refine cI (bR (eY (js.map λj:Nat=>(j:Int))) D.int (λn=>D.int (2 ^ n.toNat)) (iz (zr rfl hsort) rfl) (le_trans hlen (by decide)) λn hn=>⟨_,rfl,.sh (.int (2 ^ n.toNat)),ab rfl rfl ?_,rfl⟩) ?_
  ·obtain⟨n0,n6⟩:=hall n hn;refine(yi (i:=1) n0 (by omega) (by decide)).trans ?_
   rw[Int.one_mul]
  ·show(intsOf _).bind _=okI (orW js:Nat);rw[<-F7 h0 h3 h6];rw[show((eY (js.map λj:Nat=>(j:Int))).map λn=>D.int (2 ^ n.toNat))=((eY (js.map λj:Nat=>(j:Int))).map λn:Int=>(2:Int) ^ n.toNat).map D.int by rw[map_map];rfl,vI]
   rfl
 have m:gP [some (.own (.par a (.tre r.tr))),some (.sh (lsD ws)),none,none,none]=some (.ret (.two (.bl true) a (.tre (Rd.tr ⟨r.bells,r.rows,r.st++[orW js]⟩)))):=by
  refine a8 (aM e1) (aN (a8 (b6 c rfl) (aN (a8 (Cs (us:=(r.st.map natD).map .sh) (v0 _ _ _) rfl EY rfl e2 (by rw[length_map,length_map];exact lt_of_lt_of_le hs (by decide))) ?_))))
  refine(oN (s:=.sh (.bl true)) rfl rfl).trans ?_;unfold Rd.tr Rd.ts;rw[map_append,map_append];rfl
 exact(congrArg (m9 0 a) m).trans iK
theorem K7{n:Nat}(h1:1<=n)(h9:n<=9):rdV [48+n]=.int n:=by
 have:n=1\/n=2\/n=3\/n=4\/n=5\/n=6\/n=7\/n=8\/n=9:=by omega
 rcases this with rfl|rfl|rfl|rfl|rfl|rfl|rfl|rfl|rfl <;> rfl
theorem DN{n:Nat}(h1:1<=n)(h9:n<=9):eD [tD [48+n]]=okI (n:Nat):=by
 rw[zY (L:=[48+n]) (by show 1<=640;decide),K7 h1 h9]
abbrev sD(x:Vg):D:=.str (Str.ofString x)
theorem mq{fs:List D}{ws:List (List Nat)}(h:fs.length≠ws.length):gU [.tup fs,lsD ws]=okB false:=
 bq rfl (dE (gT (ab (iy (iU rfl) rfl) (iy (iU rfl) p9) (Jk (by show ¬((fs.length:Int)=(ws.length:Int));omega))) (bX rfl)))
theorem JQ(x:Vg)(h:(Str.ofString x == Str.ofString "BOX")=false)(h2:(Str.ofString x == Str.ofString "NUMBER")=false):dIn true (sD x) (.tup [sD "BOX",sD "NUMBER"])=okB true:=by
 show okB (!(Ab (sD "BOX") (sD x) || (Ab (sD "NUMBER") (sD x) || false)))=_;have e1:Ab (sD "BOX") (sD x)=false:=by show(Str.ofString "BOX" == Str.ofString x)=false;rw[beq_eq_false_iff_ne] at h ⊢;exact λz=>h z.symm
 have e2:Ab (sD "NUMBER") (sD x)=false:=by show(Str.ofString "NUMBER" == Str.ofString x)=false;rw[beq_eq_false_iff_ne] at h2 ⊢;exact λz=>h2 z.symm
 rw[e1,e2];rfl
theorem HC(x:Vg)(h:x = "BOX" \/ x = "NUMBER"):dIn true (sD x) (.tup [sD "BOX",sD "NUMBER"])=okB false:=by
 have e:(Ab (sD "BOX") (sD x) || (Ab (sD "NUMBER") (sD x) || false))=true:=by rcases h with rfl|rfl <;> decide +kernel
 show okB (!(Ab (sD "BOX") (sD x) || (Ab (sD "NUMBER") (sD x) || false)))=_;rw[e];rfl
theorem vP{x y:Vg}{b:Bool}{w:List Nat}(hx:dIn true (sD x) (.tup [sD "BOX",sD "NUMBER"])=okB true)(hy:dIn true (sD y) (.tup [sD "BOX",sD "NUMBER"])=okB false)(he:dEq (sD x) (tD b5)=okB b):gU [.tup [sD x,sD y],lsD [b5,w]]=okB b:=by
 refine bq rfl (a8 (b6 (ab (iy (iU rfl) rfl) (iy (iU rfl) rfl) (G1 rfl)) rfl) (bX (cI (s1:=.own (.lst [.bl b])) ?_ ?_)))
 ·refine(yX [true,false] (λc=>if c then D.tup [sD x,tD b5] else D.tup [sD y,tD w]) id (λ_=>D.bl b) rfl (by decide) λc _=>?_).trans ?_
  ·cases c with
   |true=>exact⟨_,rfl,ab rfl rfl hx,λ_=>⟨.sh (.bl b),ab rfl rfl he,rfl⟩⟩
   |false=>exact⟨_,rfl,ab rfl rfl hy,λz=>nomatch z⟩
  ·rfl
 ·cases b <;> rfl
theorem zq{w:List Nat}{n:Nat}(hw:eD [tD w]=okI (n:Nat)):ij [.tup [sD "still",sD "NUMBER"],lsD [b5,w],.lst []]=okD (.lst [natD n]):=by
 have z1:dEq (sD "still") (sD "BOX")=okB false:=j9 (by decide +kernel)
 have z2:dEq (sD "still") (sD "NUMBER")=okB false:=j9 (by decide +kernel)
 have z3:dEq (sD "NUMBER") (sD "BOX")=okB false:=j9 (by decide +kernel)
 have z4:dEq (sD "NUMBER") (sD "NUMBER")=okB true:=oo rfl;refine bq rfl (a8 (aM rfl) (a8 (nI (ds:=[.tup [sD "still",tD b5],.tup [sD "NUMBER",tD w]]) rfl ((eB rfl (b6 (ab rfl rfl z1) (b6 (ab rfl rfl z2) rfl))).trans ((eB rfl (b6 (ab rfl rfl z3) (gT (ab rfl rfl z4) (dD rfl (cI rfl hw) (by decide))))).trans rfl))) (aN (bX rfl))))
theorem E5{n:Nat}{w:List Nat}:ik [.tup [sD "still",sD "NUMBER"],lsD [b5,w],.lst [natD n]]=okD (.tup [tD b5,natD n]):=by
 have z1:dEq (sD "still") (sD "put")=okB false:=j9 (by decide +kernel)
 have z2:dEq (sD "still") (sD "here")=okB false:=j9 (by decide +kernel)
 refine bq rfl (a8 (b6 (ab (ab rfl rfl pf) rfl z1) rfl) (a8 (aM (vL (ab (ab rfl rfl pf) rfl z2) (ab rfl rfl pf))) (bX (ab (cI rfl rfl) (cI rfl rfl) ?_))));show okD (.tup [.str (Str.ofString "still"),natD n])=_;rw[lT]
theorem E8{n:Nat}{d:D}(h1:1<=n)(h9:n<=9):tJ [d,.tup [tD b5,natD n]]=okB true:=by
 have z1:dEq (tD b5) (sD "still")=okB true:=oo lT.symm;exact bq rfl (a8 (aM (ab rfl rfl pf)) (dE (gT (ab rfl rfl z1) (bX (mB rfl (ab rfl rfl yJ) (vG (by omega)) rfl (vG (by omega)))))))
theorem Ej{n:Nat}(h1:1<=n)(h9:n<=9):fW [.lst [],lsD [b5,[48+n]]]=okD (.tup [tD b5,natD n]):=by
 have i1:=JQ "tick" (by decide +kernel) (by decide +kernel)
 have i2:=JQ "still" (by decide +kernel) (by decide +kernel)
 have o1:=HC "BOX" (.inl rfl);have o2:=HC "NUMBER" (.inr rfl);have q1:dEq (sD "tick") (tD b5)=okB false:=j9 (by decide +kernel)
 have q2:dEq (sD "still") (tD b5)=okB true:=oo lT;have f5:=vP (w:=[48+n]) i1 o1 q1;have f6:=vP (w:=[48+n]) i2 o2 q2;have nn:dIn true .non (.lst [natD n])=okB true:=rfl;refine bq rfl (a8 (aM (bR ([]:List D) id id (iz rfl rfl) (by decide) λ_ h=>nomatch h)) (dE (nI (iz rfl rfl) ?_)))
 refine(eB rfl (b6 (gZ rfl rfl (mq (by show(3:Nat)≠2;decide))) rfl)).trans ?_
 refine(eB rfl (b6 (gZ rfl rfl (mq (by show(4:Nat)≠2;decide))) rfl)).trans ?_
 refine(eB rfl (b6 (gZ rfl rfl (mq (by show(3:Nat)≠2;decide))) rfl)).trans ?_
 refine(eB rfl (b6 (gZ rfl rfl (mq (by show(3:Nat)≠2;decide))) rfl)).trans ?_
 refine(eB rfl (b6 (gZ rfl rfl f5) rfl)).trans ?_;have fv:=zq (DN h1 h9);have ff:=E5 (n:=n) (w:=[48+n]);have ft:=E8 (d:=.lst []) h1 h9;refine Cj (ρ1:=[some (.sh (.lst [])),some (.sh (lsD [b5,[48+n]])),some (.own (.lst [])),some (.sh (.tup [sD "still",sD "NUMBER"])),none,none,none]) rfl (gT (gZ rfl rfl f6) (aN (a8 (aM (s:=.sh (.lst [natD n])) (dC rfl rfl rfl fv)) (aN (a8 (aM (s:=.sh (.tup [tD b5,natD n])) (dC rfl rfl rfl ff)) (aN (bX ?_)))))));exact yN (jR (ab rfl rfl nn) (gZ rfl rfl ft)) rfl
theorem Cm{ts:List Nat}{tv d1 d2:D}{o:S}:∀(x:Nat)(s4:Option S),∃s4',jK 0 4 3 tv (eBin nW (eVar 3) (eVar 4)) (ts.map natD) [some o,some (.sh d1),some (.sh d2),some (.sh (natD x)),s4]=some (.next [some o,some (.sh d1),some (.sh d2),some (.sh (natD (ts.foldl (λw x=>w ||| x) x))),s4']):=by
 induction ts with
 |nil=>exact λx s4=>⟨s4,rfl⟩
 |cons t ts ih=>
  intro x s4;obtain⟨s4',e⟩:=ih (x ||| t) (some (.sh (natD t)));refine⟨s4',?_⟩;rw[map_cons];unfold jK;rw[show eBin nW (eVar 3) (eVar 4) (([some o,some (.sh d1),some (.sh d2),some (.sh (natD x)),s4].set 4 (some (.sh (natD t)))).set 0 (some (.sh tv)))=okI ((x ||| t:Nat):Int) from ab rfl rfl (tY x t)];exact e
theorem rS{r:Rd}{q:List (List (Nat×Nat))}{x:List (Nat×Nat)}{n:Nat}(hr:r.rows=q++[x])(hx:x.length<12)(h1:1<=n)(h9:n<=9):
  cM (.tre r.tr) [] [lsD [b5,[48+n]]]=some (.bl true,.tre (Rd.tr ⟨r.bells,q++[x++[(n,CO r.st)]],r.st⟩)):=rg rfl rfl λa=>by
 generalize hws:lsD [b5,[48+n]]=W;have v0:∀s2 s3 s4:Option S,f9 0 [some (.own (.par a (.tre r.tr))),some (.sh W),s2,s3,s4]=some (.par a (.tre r.tr),r.tr):=λ_ _ _=>uq rfl rfl;have e1:cj 0 (au fW [(dH (cS ["Reader"] "boxes") (eVar 0)),(eVar 1)]) [some (.own (.par a (.tre r.tr))),some (.sh W),none,none,none]=okD (.tup [tD b5,natD n]):=by
  refine gf (v0 _ _ _) ?_ rfl;rw[Rd.val,<-hws];exact gZ (fld_boxes (r:=r) rfl) rfl (Ej h1 h9)
 have c:cj 0 (kJ (dH Af (eVar 2)) (eBin dEq (aJ (f1 cm) [(eBin dj (dH (cS ["Reader"] "rows") (eVar 0)) (eC (.int (-1))))]) (eC (.int (12))))) [some (.own (.par a (.tre r.tr))),some (.sh W),some (.sh (.tup [tD b5,natD n])),none,none]=okB false:=by
  refine gf (v0 _ _ _) ?_ rfl;rw[Rd.val];refine nU (zr rfl rfl) (ab (iy (s1:=.sh (D.lst (x.map plD))) (ab (fld_rows (r:=r) rfl) rfl ?_) (kd _ _)) rfl (nc (by omega)))
  show dj (.lst (dZ r.rows)) (.int (-1))=_;rw[hr];unfold dZ;rw[map_append];exact vD
 obtain⟨s4,ef⟩:=Cm (ts:=r.st) (tv:=r.d) (d1:=W) (d2:=.tup [tD b5,natD n]) (o:=.own (.par a (.tre r.tr))) 0 none;have es:sE 0 4 3 (fB (dH (cS ["Reader"] "stretches") (eVar 0))) (eBin nW (eVar 3) (eVar 4)) [some (.own (.par a (.tre r.tr))),some (.sh W),some (.sh (.tup [tD b5,natD n])),some (.sh (natD 0)),none]=some (.next [some (.own (.par a (.tre r.tr))),some (.sh W),some (.sh (.tup [tD b5,natD n])),some (.sh (natD (CO r.st))),s4]):=by
  unfold sE;rw[v0];dsimp only[Option.bind_some];rw[Rd.val,show fB (dH (cS ["Reader"] "stretches") (eVar 0)) ([some (.own (.par a (.tre r.tr))),some (.sh W),some (.sh (.tup [tD b5,natD n])),some (.sh (natD 0)),none].set 0 (some (.sh r.d)))=some (.ok (r.st.map natD)) from iz (tG (r:=r) rfl) rfl];exact ef
 have m:gQ [some (.own (.par a (.tre r.tr))),some (.sh W),none,none,none]=some (.ret (.two (.bl true) a (.tre (Rd.tr ⟨r.bells,q++[x++[(n,CO r.st)]],r.st⟩)))):=by
  refine a8 (aM e1) (a8 (b6 c rfl) (a8 (aM rfl) (a8 es (a8 (Ed (us:=q.map λx=>.lst ((x.map plD).map .sh)) (ws:=(x.map plD).map .sh) (s:=.sh (plD (n,CO r.st))) (v0 _ _ _) rfl yP ?_ (oB (s1:=.sh (.tup [tD b5,natD n])) (s2:=.sh (natD (CO r.st))) rfl rfl) (by rw[length_map,length_map];exact lt_of_lt_of_le hx (by decide))) ?_))))
  ·show some (Tr.lst (r.rows.map λx=>.lst ((x.map plD).map .sh)))=_;rw[hr,map_append];rfl
  ·refine(oN (s:=.sh (.bl true)) rfl rfl).trans ?_;unfold Rd.tr Rd.ts;rw[map_append,map_cons,map_append,map_append];rfl
 exact(congrArg (m9 0 a) m).trans iK
inductive Ln
 |bell (j k:Nat)|row (j:Nat)|shut (js:List Nat)|opn|still (n:Nat)
def Ln.ws(N:List (List Nat)):Ln->List (List Nat)
 |.bell j k=>[gD,N.getD j [],[48+k]]
 |.row j=>[mJ,N.getD j []]
 |.shut js=>wShut::js.map λj=>N.getD j []
 |.opn=>[hZ]
 |.still n=>[b5,[48+n]]
def Ln.t(N:List (List Nat))(l:Ln):D:=tD (jw (l.ws N))
inductive iW(N:List (List Nat))(r:Rd):Ln->Rd->Prop
 |bell {j k:Nat} (hr:r.rows=[]) (hb:r.bells.length<6) (hw:NmOk (N.getD j [])) (hn:N.getD j []∉r.nms) (k1:1<=k) (k9:k<=9):iW N r (.bell j k) ⟨r.bells++[(N.getD j [],k)],r.rows,r.st⟩
 |row {j:Nat} (hb:r.bells.length<=6) (hw:NmOk (N.getD j [])) (h:r.nms[r.rows.length]?=some (N.getD j [])) (he:r.rests):iW N r (.row j) ⟨r.bells,r.rows++[[]],r.st⟩
 |shut {js:List Nat} (hr:r.rows≠[]) (hN:r.nms=N) (hok:∀w∈N,NmOk w) (hb:r.bells.length<=6) (nd:N.Nodup) (h0:js≠[]) (h3:js.length<=3) (h:∀j∈js,1<=j/\j<N.length) (hs:r.st.length<12):iW N r (.shut js) ⟨r.bells,r.rows,r.st++[orW js]⟩
 |opn {q:List Nat} {x:Nat} (hr:r.rows≠[]) (h:r.st=q++[x]):iW N r .opn ⟨r.bells,r.rows,q⟩
 |still {q:List (List (Nat×Nat))} {x:List (Nat×Nat)} {n:Nat} (hr:r.rows=q++[x]) (hx:x.length<12) (h1:1<=n) (h9:n<=9):iW N r (.still n) ⟨r.bells,q++[x++[(n,CO r.st)]],r.st⟩
theorem iO{N:List (List Nat)}{j:Nat}(h:j<N.length):N.getD j []∈N:=by
 rw[getD_eq_getElem?_getD,getElem?_eq_getElem h];exact getElem_mem h
theorem AL{N:List (List Nat)}{r r':Rd}{l:Ln}(h:iW N r l r'):l.ws N≠[]/\(∀w∈l.ws N,32∉w/\w.length<=8)/\(l.ws N).length<=100:=by
 cases h with
 |bell hr hb hw hn k1 k9=>
  refine⟨cons_ne_nil _ _,λw h=>?_,(by show 3<=100;decide)⟩
  rcases mem_cons.mp h with rfl|h
  ·exact⟨by decide,by decide⟩
  ·rcases mem_cons.mp h with rfl|h
   ·exact⟨hw.free,hw.l8⟩
   ·rw[mem_singleton.mp h];exact⟨λz=>by have:=mem_singleton.mp z;omega,by show 1<=8;decide⟩
 |row hb hw h he=>
  refine⟨cons_ne_nil _ _,λw h=>?_,(by show 2<=100;decide)⟩
  rcases mem_cons.mp h with rfl|h
  ·exact⟨by decide,by decide⟩
  ·rw[mem_singleton.mp h];exact⟨hw.free,hw.l8⟩
 |@shut js hr hN hok hb nd h0 h3 h hs=>
  refine⟨cons_ne_nil _ _,λw hw=>?_,(by show(js.map _).length+1<=100;rw[length_map];omega)⟩
  rcases mem_cons.mp hw with rfl|hw
  ·exact⟨by decide,by decide⟩
  ·obtain⟨j,hj,rfl⟩:=mem_map.mp hw;have:=hok _ (iO (h j hj).2);exact⟨this.free,this.l8⟩
 |opn hr h=>
  refine⟨cons_ne_nil _ _,λw h=>?_,(by show 1<=100;decide)⟩
  rw[mem_singleton.mp h];exact⟨by decide,by decide⟩
 |@still q x n hr hx h1 h9=>
  refine⟨cons_ne_nil _ _,λw h=>?_,(by show 2<=100;decide)⟩
  rcases mem_cons.mp h with rfl|h
  ·exact⟨by decide,by decide⟩
  ·rw[mem_singleton.mp h];exact⟨λz=>by have:=mem_singleton.mp z;omega,by show 1<=8;decide⟩
abbrev ρ3(a:Nat)(r:Rd)(L:D)(ws:List (List Nat)):aA:=[some (.own (.par a (.tre r.tr))),some (.sh L),some (.sh (lsD ws))]
theorem E2{w:List Nat}{ws:List (List Nat)}{x:Str}{ρ:aA}(h:ρ[2]?=some (some (.sh (lsD (w::ws)))))(e:T w=x):eBin dEq (eBin dj (eVar 2) (eC (.int 0))) (eC (.str x)) ρ=okB true:=ab (ab (ye h) rfl EU) rfl (oo e)
theorem lE{w:List Nat}{ws:List (List Nat)}{x:Str}{ρ:aA}(h:ρ[2]?=some (some (.sh (lsD (w::ws)))))(e:T w≠x):eBin dEq (eBin dj (eVar 2) (eC (.int 0))) (eC (.str x)) ρ=okB false:=ab (ab (ye h) rfl EU) rfl (j9 e)
theorem oM{r:Rd}(h:r.rows≠[])(a:Nat)(L:D)(ws:List (List Nat)):cj 0 (eBin gY (dH (cS ["Reader"] "rows") (eVar 0)) (du [])) (ρ3 a r L ws)=okB false:=by
 refine gf (uq rfl rfl) ?_ rfl;rw[Rd.val];refine ab (t:=.own (.lst [])) (fld_rows (r:=r) rfl) rfl ?_;show okB (r.rows.map _).isEmpty=_;rw[ig];cases hh:r.rows with
 |nil=>exact absurd hh h
 |cons _ _=>rfl
theorem p6{r r':Rd}{a:Nat}{L:D}{ws:List (List Nat)}{m:Str}{F:MF}(hn:Aa.contains m=false)(hF:F (.tre r.tr) [] [lsD ws]=some (.bl true,.tre r'.tr)):
  kD 0 (gj "Reader" 0 m F [(eVar 2)]) (ρ3 a r L ws)=some (.ret (.two (.bl true) a (.tre r'.tr))):=
 Fn (yB rfl rfl hn rfl hF) rfl
theorem CU{N:List (List Nat)}{r r':Rd}{l:Ln}(h:iW N r l r'):fH (.tre r.tr) [] [l.t N]=some (.bl true,.tre r'.tr):=rg rfl rfl λa=>by
 obtain⟨w0,w1,w2⟩:=AL h;have m:kE [some (.own (.par a (.tre r.tr))),some (.sh (l.t N)),none]=some (.ret (.two (.bl true) a (.tre r'.tr))):=by
  refine a8 (aM (D6 rfl w0 w1 w2)) (aN ?_);show(aC _ _) (ρ3 a r (l.t N) (l.ws N))=_;cases h with
  |bell hr hb hw hn k1 k9=>
   exact a8 (b6 (lE rfl (by decide +kernel)) rfl) (aN (dE (gT (E2 rfl Fi.symm) (aN (p6 (by decide +kernel) (rT hr hb hw hn k1 k9))))))
  |row hb hw h he=>
   exact a8 (b6 (lE rfl (by decide +kernel)) rfl) (aN (a8 (b6 (lE rfl (by decide +kernel)) rfl) (aN (dE (gT (E2 rfl EJ.symm) (aN (p6 (by decide +kernel) (uu hb h he))))))))
  |@shut js hr hN hok hb nd h0 h3 h hs=>
   subst hN;exact a8 (b6 (lE rfl (by decide +kernel)) rfl) (aN (a8 (b6 (lE rfl (by decide +kernel)) rfl) (aN (a8 (b6 (lE rfl (by decide +kernel)) rfl) (a8 (b6 (oM hr _ _ _) rfl) (aN (dE (gT (E2 rfl Fg.symm) (aN (p6 (by decide +kernel) (rR hb nd h0 h3 h hs)))))))))))
  |opn hr h=>
   exact a8 (b6 (lE rfl (by decide +kernel)) rfl) (aN (a8 (b6 (lE rfl (by decide +kernel)) rfl) (aN (a8 (b6 (lE rfl (by decide +kernel)) rfl) (a8 (b6 (oM hr _ _ _) rfl) (aN (a8 (b6 (lE rfl (by decide +kernel)) rfl) (aN (dE (gT (E2 rfl wM.symm) (aN (p6 (by decide +kernel) (uv h)))))))))))))
  |@still q x n hr hx h1 h9=>
   have hr':r.rows≠[]:=by rw[hr];exact List.append_ne_nil_of_right_ne_nil _ (cons_ne_nil _ _)
   exact a8 (b6 (lE rfl (by decide +kernel)) rfl) (aN (a8 (b6 (lE rfl (by decide +kernel)) rfl) (aN (a8 (b6 (lE rfl (by decide +kernel)) rfl) (a8 (b6 (oM hr' _ _ _) rfl) (aN (a8 (b6 (lE rfl (by decide +kernel)) rfl) (aN (a8 (b6 (lE rfl (by decide +kernel)) rfl) (aN (p6 (by decide +kernel) (rS hr hx h1 h9))))))))))))
 exact(congrArg (m9 0 a) m).trans iK
inductive hV(N:List (List Nat)):Rd->List Ln->Rd->Prop
 |nil {r:Rd}:hV N r [] r
 |cons {r r1 r':Rd} {l:Ln} {ls:List Ln}:iW N r l r1->hV N r1 ls r'->hV N r (l::ls) r'
theorem hV.app{N:List (List Nat)}{r r1 r2:Rd}{us vs:List Ln}(h:hV N r us r1)(h2:hV N r1 vs r2):hV N r (us++vs) r2:=by
 induction h with
 |nil=>exact h2
 |cons a _ ih=>exact .cons a (ih h2)
theorem hV.one{N:List (List Nat)}{r r1:Rd}{l:Ln}(h:iW N r l r1):hV N r [l] r1:=.cons h .nil
theorem zw{N:List (List Nat)}{r r':Rd}{l:Ln}(h:iW N r l r')(L:S)(s2:Option S):mF [some L,some (.own (.tre r.tr)),s2,some (.sh (l.t N))]=some (.next [some L,some (.own (.tre r'.tr)),s2,some (.sh (l.t N))]):=by
 unfold mF Fk G9 G8;rw[yB (o:=.tre r.tr) rfl rfl (by decide +kernel) rfl (CU h)]
 rfl
theorem zJ{N:List (List Nat)}{r r':Rd}{ls:List Ln}(h:hV N r ls r')(L:S):∀(k:Nat)(s2 s3:Option S),∃s2' s3',iP (mH [2,3]) mF (zipWith (λ(i:Nat) d=>D.tup [.int i,d]) (List.range' k ls.length) (ls.map (Ln.t N))) [some L,some (.own (.tre r.tr)),s2,s3]=some (.next [some L,some (.own (.tre r'.tr)),s2',s3']):=by
 induction h with
 |nil=>exact λk s2 s3=>⟨s2,s3,rfl⟩
 |@cons r r1 r' l ls a _ ih=>
  intro k s2 s3;obtain⟨s2',s3',e⟩:=ih (k+1) (some (.sh (natD k))) (some (.sh (l.t N)));refine⟨s2',s3',?_⟩;rw[length_cons,List.range'_succ,map_cons,List.zipWith_cons_cons];exact(eB rfl (zw a L _)).trans e
theorem xE{a:ME}{ρ:aA}{s:S}{k:D->Option RI}(h:a ρ=some (.ok s)):mn a ρ k=k s.val:=by unfold mn;rw[h]
abbrev Rw8:=List Nat×Nat×List (Nat×Nat)
def rwD(x:Rw8):D:=.tup [tD x.1,natD x.2.1,.tup (x.2.2.map plD)]
structure rM(r:Rd)(X:List Rw8):Prop where
 nm:r.nms=X.map (·.1)
 rk:0::r.bells.map (·.2)=X.map (·.2.1)
 rw:r.rows=X.map (·.2.2)
 hb:r.bells.length<=6
 re:r.rests
 ln:∀x∈X,x.2.2.length<=12
theorem ue:∀X:List Rw8,oy (X.map λx=>tD x.1) (X.map λx:Rw8=>natD x.2.1) (X.map λx=>D.lst (x.2.2.map plD))=X.map λx=>D.tup [tD x.1,natD x.2.1,.lst (x.2.2.map plD)]
 |[]=>rfl
 |x::X=>by
  show D.tup _::oy (X.map λx=>tD x.1) (X.map λx:Rw8=>natD x.2.1) (X.map λx=>D.lst (x.2.2.map plD))=_;rw[ue X];rfl
theorem rM.len{r:Rd}{X:List Rw8}(h:rM r X):X.length<=7:=by
 have:=congrArg List.length h.nm;unfold Rd.nms at this;rw[length_cons,length_map,length_map] at this;have:=h.hb;omega
theorem AO{r:Rd}{X:List Rw8}(h:rM r X):cz [r.d]=okB true:=by
 refine bq rfl (bX (jR (ab (iy (fld_rows (r:=r) rfl) (vF _)) (iy (s1:=.own (.lst (r.nms.map tD))) (Bh h.hb rfl) p9) (Ee ?_)) (HP h.re rfl)));rw[h.rw,h.nm,length_map,length_map]
theorem DR{r:Rd}{X:List Rw8}(h:rM r X):dA [r.d]=okD (.tup [.tup [],.tup (X.map rwD)]):=by
 have e1:eBin dAdd (du [(eC (.int 0))]) (b3 [6] (fB (dH (cS ["Reader"] "bells") (eVar 0))) (aY 6) bf (eBin dj (eVar 6) (eC (.int 1)))) [some (.sh r.d),none,none,none,none,none,none]=okL (X.map λx:Rw8=>natD x.2.1):=by
  have c:b3 [6] (fB (dH (cS ["Reader"] "bells") (eVar 0))) (aY 6) bf (eBin dj (eVar 6) (eC (.int 1))) [some (.sh r.d),none,none,none,none,none,none]=okL ((r.bells.map (·.2)).map natD):=by
   rw[map_map];exact bR r.bells pM (natD ∘ (·.2)) (iz (fld_bells rfl) rfl) (le_trans h.hb (by decide)) λb _=>⟨_,rfl,.sh (natD b.2),ab rfl rfl yJ,rfl⟩
  refine ab (s:=.own (.lst [.int 0])) rfl c ?_;refine(mC (by rw[length_map,length_map,length_singleton];have:=h.hb;omega)).trans ?_
  rw[show(X.map λx:Rw8=>natD x.2.1)=(X.map (·.2.1)).map natD by rw[map_map];rfl,<-h.rk]
  rfl
 have e2:b3 [3,4,5] (Cc (eF "row_names" aL (eVar 0) []) (eVar 1) (dH (cS ["Reader"] "rows") (eVar 0))) (mH [3,4,5]) bf (gn [(eVar 3),(eVar 4),(au (f1 jO) [(eVar 5)])]) [some (.sh r.d),some (.sh (.lst (X.map λx:Rw8=>natD x.2.1))),none,none,none,none,none]=okL (X.map rwD):=by
  refine bR X (λx=>D.tup [tD x.1,natD x.2.1,.lst (x.2.2.map plD)]) rwD ?_ (le_trans h.len (by decide)) λx hx=>⟨_,rfl,.sh (rwD x),dC (s1:=.sh (tD x.1)) (s2:=.sh (natD x.2.1)) (s3:=.sh (.tup (x.2.2.map plD))) rfl rfl (cI (s1:=.sh (.lst (x.2.2.map plD))) rfl rfl) rfl,rfl⟩
  refine(xE (s:=.own (.lst (r.nms.map tD))) (Bh h.hb rfl)).trans ((xE (s:=.sh (.lst (X.map λx:Rw8=>natD x.2.1))) rfl).trans ((xE (s:=.sh (.lst (dZ r.rows))) (fld_rows (r:=r) rfl)).trans ?_));show some (RI.ok (oy (r.nms.map tD) (X.map λx:Rw8=>natD x.2.1) (dZ r.rows)))=_;rw[h.nm,h.rw];unfold dZ;rw[map_map,map_map];exact congrArg (λl=>some (RI.ok l)) (ue X)
 refine bq rfl (a8 (aM e1) (aN (a8 (aM e2) (aN (bX (oB (s1:=.sh (.tup [])) (s2:=.sh (.tup (X.map rwD))) (cI (fld_boxes (r:=r) rfl) rfl) (cI rfl rfl)))))))
theorem um:∀xs:List (Nat×Nat),cB (xs.map plD)=true
 |[]=>by unfold cB;rfl
 |x::xs=>by
  show cB (plD x::xs.map plD)=true;unfold cB;rw[um xs];simp only[plD,jc,cB,Bool.and_self]
theorem uk:∀X:List Rw8,cB (X.map rwD)=true
 |[]=>by unfold cB;rfl
 |x::X=>by
  show cB (rwD x::X.map rwD)=true;unfold cB;rw[uk X];simp only[rwD,jc,cB,um,Bool.and_self]
theorem Dd{N:List (List Nat)}{r:Rd}{ls:List Ln}{X:List Rw8}(g:hV N ⟨[],[],[]⟩ ls r)(h:rM r X):tH [.lst (ls.map (Ln.t N))]=okD (.tup [.tup [],.tup (X.map rwD)]):=by
 obtain⟨s2,s3,e⟩:=zJ g (.sh (.lst (ls.map (Ln.t N)))) 0 none none;have v:∀o,f9 1 [some (.sh (.lst (ls.map (Ln.t N)))),some (.own (.tre r.tr)),o,s3]=some (.tre r.tr,r.tr):=λ_=>uq rfl rfl;refine bq rfl (a8 (ρ':=[some (.sh (.lst (ls.map (Ln.t N)))),some (.own (.tre (Rd.tr ⟨[],[],[]⟩))),none,none]) rfl (a8 (nI ?_ e) ?_))
 ·show some (RI.ok (zipWith (λ(i:Nat) d=>D.tup [.int i,d]) (List.range (ls.map (Ln.t N)).length) (ls.map (Ln.t N))))=_;rw[length_map,List.range_eq_range']
 ·refine aN (a8 (b6 (gf (v _) ?_ rfl) rfl) (aN (bX (gf (v _) ?_ ?_))))
  ·rw[Rd.val];exact yz (yC (s:=.sh r.d) rfl rfl (by decide +kernel) kP (AO h))
  ·rw[Rd.val];exact yC (s:=.sh r.d) rfl rfl (by decide +kernel) oC (DR h)
  ·simp only[jc,cB,uk,Bool.and_self]
theorem qZ(sep:Str):∀(zs:List Str)(n:Nat),(∀z∈zs,z.length<=8)->sep.length<=1->zs.foldl (λx1 x2=>x1+x2.length+sep.length) n<=n+9 * zs.length
 |[],n,_,_=>le_refl _
 |z::zs,n,h,hs=>by
  have h1:=h z mem_cons_self;have:=qZ sep zs (n+z.length+sep.length) (λy hy=>h y (mem_cons_of_mem _ hy)) hs;rw[foldl_cons,length_cons];omega
theorem Hn:Str.ofString " " = T [32]:=by decide +kernel
theorem DV{ρ:aA}{ge:ME}{s:S}{ws:List (List Nat)}(h:ge ρ=some (.ok s))(hs:s.val=lsD ws)(hl:ws.length<=10)(h8:∀w∈ws,w.length<=8):dB dh (eC (.str (Str.ofString " "))) ge ρ=okD (tD (jw ws)):=by
 unfold dB;show aQ (ge ρ) (λy=>dh (.str (Str.ofString " ")) y)=_;rw[h];show dh (.str (Str.ofString " ")) s.val=_;rw[hs,Hn];show(gg (ws.map tD)).bind (λzs=>if JoinOk (T [32]) zs=true then okD (.str (Txt.join (T [32]) zs)) else none)=_;rw[show ws.map tD=(ws.map T).map D.str by rw[map_map];rfl,iX]
 dsimp only[Option.bind_some];have ok:JoinOk (T [32]) (ws.map T)=true:=by
  unfold JoinOk Builtin.Str.tooLong;have:=qZ (T [32]) (ws.map T) 0 (λz hz=>by
   obtain⟨w,hw,rfl⟩:=mem_map.mp hz;rw[gv];exact h8 w hw) (by rw[gv];show 1<=1;decide)
  rw[length_map] at this;rw[List.foldl_toArray,Bool.not_eq_true',decide_eq_false_iff_not,sizeLine_eq];omega
 rw[if_pos ok,show Txt.join (T [32]) (ws.map T)=Str.join (T [32]) (ws.map T) from StrLaws.glued_eq_join _ _,tu]
theorem ym:Str.ofString "shut " = T (wShut++[32]):=by decide +kernel
theorem Be:Str.ofString "still " = T (b5++[32]):=by decide +kernel
theorem Bd:Str.ofString "still 9" = T (jw [b5,[48+9]]):=by decide +kernel
theorem ml{u w:List Nat}{ws:List (List Nat)}:jw (u::w::ws)=u++[32]++jw (w::ws):=by
 show u++32::jw (w::ws)=_;rw[append_assoc];rfl
theorem FJ{w k:Nat}(h:k<=6){ρ:aA}(h4:ρ[4]?=some (some (.sh (natD w))))(h5:ρ[5]?=some (some (.sh (natD k)))):eBin nW (eVar 4) (eBin xQ (eC (.int 2)) (eVar 5)) ρ=okI ((w ||| 2 ^ (k+1):Nat):Int):=by
 refine ab (ye h4) (ab (s:=.sh (.int 2)) (r:=okI ((2 ^ (k+1):Nat):Int)) rfl (ye h5) ?_) (tY w _);refine(yi (i:=2) (j:=(k:Int)) (by omega) (by omega) (by decide)).trans ?_
 rw[toNat_natCast,Nat.pow_succ,Int.natCast_mul,Int.natCast_pow,Int.mul_comm];rfl
section
variable{ns:List Int}{fin:List (List Nat)}(l1:1<=fin.length)(l6:fin.length<=6)(hok:∀w∈fin,NmOk w)
include l1 l6 hok
theorem xI{k:Nat}(h:k<fin.length):dj (lsD fin) (natD k)=okD (tD (fin.getD k [])):=lC (by rw[getElem?_map,getElem?_eq_getElem h,getD_eq_getElem?_getD,getElem?_eq_getElem h];rfl)
theorem D8{at_:Nat}(hat:at_<=90000):∃js:List Nat,js≠[]/\js.length<=3/\(∀j∈js,1<=j/\j<(wMain::fin).length)/\j8 [scD ns,natD at_,lsD fin]=okD (.tup [Ln.t (wMain::fin) (.shut js),natD (orW js)]):=by
 have z1:=gX (ns:=ns) (k:=at_+3) (m:=3) (by omega) (by decide)
 have z2:=iS (ns:=ns) (k:=at_+3) (m:=3) (by decide)
 generalize dn ns (at_+3) 3=d at *;let ks:List Nat:=(List.range (1+d)).map λk=>dn ns (at_+k) fin.length;have hks:∀k∈ks,k<fin.length:=λk hk=>by
  obtain⟨i,_,rfl⟩:=mem_map.mp hk;exact iS (by omega)
 have hkl:ks.length=1+d:=by show((List.range (1+d)).map _).length=_;rw[length_map,length_range]
 have e1:b3 [5] (b7 (eBin dAdd (eC (.int 1)) (au ax [(eVar 0),(eBin dAdd (eVar 1) (eC (.int 3))),(eC (.int 3))]))) (aY 5) bf (au ax [(eVar 0),(eBin dAdd (eVar 1) (eVar 5)),(aJ (f1 cm) [(eH 2)])]) [some (.sh (scD ns)),some (.sh (natD at_)),some (.sh (lsD fin)),none,none,none]=okL (ks.map natD):=by
  show _=okL (((List.range (1+d)).map λk=>dn ns (at_+k) fin.length).map natD);rw[map_map];refine bR (List.range (1+d)) natD _ (eN (ab rfl (dC rfl (ab rfl rfl (fE at_ 3)) rfl z1) (fE 1 d)) (by omega)) (by rw[length_range];exact le_trans (show 1+d<=10 by omega) (by decide)) λk hk=>?_
  have hk:=mem_range.mp hk;exact⟨_,rfl,.sh (natD (dn ns (at_+k) fin.length)),dC rfl (ab rfl rfl (fE at_ k)) (iy (iU rfl) p9) (gX (by omega) (by omega)),rfl⟩
 generalize hk0:ks=ks' at *;obtain⟨ρ',e,s5,rfl⟩:=Ck (bd:=aY 5) (body:=mG) natD (λq ρ=>∃s5:Option S,ρ=[some (.sh (scD ns)),some (.sh (natD at_)),some (.sh (lsD fin)),some (.sh (.lst (ks'.map natD))),some (.sh (natD (orW (q.map (· + 1))))),s5]) ks' (ρ:=[some (.sh (scD ns)),some (.sh (natD at_)),some (.sh (lsD fin)),some (.sh (.lst (ks'.map natD))),some (.sh (natD 0)),none]) ⟨none,rfl⟩ (by
  rintro q k post ρ hq ⟨s5,rfl⟩
  have hk:=hks k (by rw[hq];simp)
  refine⟨_,_,rfl,.inl (aM (s:=.sh (natD (orW (q.map (· + 1)) ||| 2 ^ (k+1)))) (FJ (by omega) rfl rfl)),some (.sh (natD k)),?_⟩
  rw[map_append,show orW (q.map (· + 1)++[k].map (· + 1))=orW (q.map (· + 1)) ||| 2 ^ (k+1) by unfold orW;rw[List.foldl_append];rfl]
  rfl)
 have ej:eBin dAdd (eC (.str "shut ")) (dB dh (eC (.str " ")) (b3 [5] (fB (eVar 3)) (aY 5) bf (eBin dj (eVar 2) (eVar 5)))) [some (.sh (scD ns)),some (.sh (natD at_)),some (.sh (lsD fin)),some (.sh (.lst (ks'.map natD))),some (.sh (natD (orW (ks'.map (· + 1))))),s5]=okD (Ln.t (wMain::fin) (.shut (ks'.map (· + 1)))):=by
  have c:b3 [5] (fB (eVar 3)) (aY 5) bf (eBin dj (eVar 2) (eVar 5)) [some (.sh (scD ns)),some (.sh (natD at_)),some (.sh (lsD fin)),some (.sh (.lst (ks'.map natD))),some (.sh (natD (orW (ks'.map (· + 1))))),s5]=okL ((ks'.map λk=>fin.getD k []).map tD):=by
   rw[map_map];exact bR ks' natD _ (iz rfl rfl) (le_trans (show ks'.length<=10 by omega) (by decide)) λk hk=>⟨_,rfl,.sh (tD (fin.getD k [])),ab rfl rfl (xI l1 l6 hok (hks k hk)),rfl⟩
  have h8:∀w∈ks'.map (λk=>fin.getD k []),w.length<=8:=λw hw=>by
   obtain⟨k,hk,rfl⟩:=mem_map.mp hw;exact(hok _ (iO (hks k hk))).l8
  have hjl:=xy _ h8;rw[length_map] at hjl;refine ab rfl (DV c rfl (by rw[length_map];omega) h8) ?_
  show dAdd (.str (Str.ofString "shut ")) (tD (jw (ks'.map λk=>fin.getD k [])))=okD (tD (jw (wShut::(ks'.map (· + 1)).map λj=>(wMain::fin).getD j [])));rw[ym,pJ (by show 5+_<=1000;omega),map_map]
  cases ks' with
  |nil=>exact absurd hkl (by rw[List.length_nil];omega)
  |cons k ks2=>rw[map_cons,map_cons,ml];rfl
 refine⟨ks'.map (· + 1),λz=>?_,by rw[length_map];omega,λj hj=>?_,bq rfl (a8 (aM e1) (a8 (aM rfl) (aN (a8 (nI (iz rfl rfl) e) (aN (bX (oB (s2:=.sh (natD (orW (ks'.map (· + 1))))) ej rfl)))))))⟩
 ·have:=congrArg List.length z;rw[length_map,List.length_nil] at this;omega
 ·obtain⟨k,hk,rfl⟩:=mem_map.mp hj;have:=hks k hk;rw[length_cons];omega
end
theorem CH{ρ:aA}{a b:ME}{x y:Bool}(h:a ρ=okB x)(h2:b ρ=okB y):gp a b ρ=okB (x && y):=by
 cases x with
 |true=>rw[Bool.true_and];exact jR h h2
 |false=>exact zf h
theorem o7{q:List (List (Nat×Nat))}{x:List (Nat×Nat)}:q++[x]≠[]:=List.append_ne_nil_of_right_ne_nil _ (cons_ne_nil _ _)
theorem HR(a b:Nat):CQ (natD a) (natD b)=okB (decide (a<b)):=by
 refine(Jl _ _).trans ?_;rw[show decide ((a:Int)<(b:Int))=decide (a<b) from decide_eq_decide.mpr Int.ofNat_lt]
theorem Kc(a b:Nat):Eo (natD a) (natD b)=okB (decide (b<a)):=by
 refine(Gq _ _).trans ?_;rw[show decide ((b:Int)<(a:Int))=decide (b<a) from decide_eq_decide.mpr Int.ofNat_lt]
theorem JS(a b:Nat):dEq (natD a) (natD b)=okB (decide (a=b)):=by
 refine(Gu _ _).trans ?_;rw[show decide ((a:Int)=(b:Int))=decide (a=b) from decide_eq_decide.mpr Int.ofNat_inj]
theorem Hi{n:Nat}(h1:1<=n)(h9:n<=9):pF (natD n)=okD (tD [48+n]):=by
 have:n=1\/n=2\/n=3\/n=4\/n=5\/n=6\/n=7\/n=8\/n=9:=by omega
 have key:∀n:Nat,n<10->(n:Int).natAbs.log2<1920/\Str.ofString (toString (n:Int))=T [48+n]:=by decide +kernel
 obtain⟨k1,k2⟩:=key n (by omega)
 show(if(n:Int).natAbs.log2<1920 then okD (.str (Str.ofString (toString (n:Int)))) else none)=_;rw[if_pos k1,k2]
theorem Jr(w:Nat):dIn false (natD w) (.tup [.int 3,.int 4])=okB (decide (w=3\/w=4)):=by
 show okB ((3:Int) == (w:Int) || ((4:Int) == (w:Int) || false))=_;congr 4;rw[Bool.or_false,Bool.eq_iff_iff,Bool.or_eq_true,beq_iff_eq,beq_iff_eq,decide_eq_true_iff];omega
abbrev ρR(ns:List Int)(base:Nat)(fin:List (List Nat))(often:Nat)(l4 l5 l6:List D)(s7 s8 s9 s10 s11 s12 s13 s14:Option S):aA:=[some (.sh (scD ns)),some (.sh (natD base)),some (.sh (lsD fin)),some (.sh (natD often)),some (.own (.lst l4)),some (.own (.lst l5)),some (.own (.lst l6)),s7,s8,s9,s10,s11,s12,s13,s14]
theorem Cn{ns:List Int}{base:Nat}{fin:List (List Nat)}{often:Nat}{l4 l5 l6:List D}{s7 s8 s9 s10 s11 s12:Option S}{tv:D}{ts:List Nat}:∀(x:Nat)(s14:Option S),∃s14',jK 6 14 13 tv (eBin nW (eVar 13) (eVar 14)) (ts.map natD) (ρR ns base fin often l4 l5 l6 s7 s8 s9 s10 s11 s12 (some (.sh (natD x))) s14)=some (.next (ρR ns base fin often l4 l5 l6 s7 s8 s9 s10 s11 s12 (some (.sh (natD (ts.foldl (λw x=>w ||| x) x)))) s14')):=by
 induction ts with
 |nil=>exact λx s14=>⟨s14,rfl⟩
 |cons t ts ih=>
  intro x s14;obtain⟨s14',e⟩:=ih (x ||| t) (some (.sh (natD t)));refine⟨s14',?_⟩;rw[map_cons];unfold jK;rw[show eBin nW (eVar 13) (eVar 14) (((ρR ns base fin often l4 l5 l6 s7 s8 s9 s10 s11 s12 (some (.sh (natD x))) s14).set 14 (some (.sh (natD t)))).set 6 (some (.sh tv)))=okI ((x ||| t:Nat):Int) from ab rfl rfl (tY x t)];exact e
structure RowI(N:List (List Nat))(B:List (List Nat×Nat))(q:List (List (Nat×Nat)))(k:Nat)(ls:List Ln)(pl:List (Nat×Nat))(stk:List Nat):Prop where
 l1:ls.length<=k
 l2:pl.length<=11
 l3:stk.length<=12
 go:hV N ⟨B,q++[[]],[]⟩ ls ⟨B,q++[pl],stk⟩
theorem yD:NmOk wMain:=⟨by decide,by decide,by decide⟩
section
variable{ns:List Int}{fin:List (List Nat)}{B:List (List Nat×Nat)}{q:List (List (Nat×Nat))}{often:Nat}(l1:1<=fin.length)(l6:fin.length<=6)(hok:∀w∈fin,NmOk w)(hN:wMain::B.map (·.1)=wMain::fin)(nd:(wMain::fin).Nodup)(ho:often<=2)
include l1 l6 hok hN nd ho
theorem Kd:B.length<=6:=by
 have:=congrArg List.length hN;rw[length_cons,length_cons,length_map] at this;omega
theorem sV{pl:List (Nat×Nat)}{stk js:List Nat}(h0:js≠[])(h3:js.length<=3)(h:∀j∈js,1<=j/\j<(wMain::fin).length)(hs:stk.length<12):iW (wMain::fin) ⟨B,q++[pl],stk⟩ (.shut js) ⟨B,q++[pl],stk++[orW js]⟩:=
 iW.shut (r:=⟨B,q++[pl],stk⟩) o7 hN (λw hw=>by
  rcases mem_cons.mp hw with rfl|hw
  ·exact yD
  ·exact hok w hw) (Kd l1 l6 hok hN nd ho) nd h0 h3 h hs
theorem Ew{base k:Nat}(hb:base<=2000)(hk:k<21){ls:List Ln}{pl:List (Nat×Nat)}{stk:List Nat}(I:RowI (wMain::fin) B q k ls pl stk)(s9 s10 s11 s12 s13 s14:Option S):
  ∃ls' pl' stk' s9' s10' s11' s12' s13' s14',ip (ρR ns base fin often (ls.map (Ln.t (wMain::fin))) (pl.map plD) (stk.map natD) (some (.sh (natD k))) none s9 s10 s11 s12 s13 s14)=some (.next (ρR ns base fin often (ls'.map (Ln.t (wMain::fin))) (pl'.map plD) (stk'.map natD) (some (.sh (natD k))) none s9' s10' s11' s12' s13' s14'))/\RowI (wMain::fin) B q (k+1) ls' pl' stk':=by
 have hway:=gX (ns:=ns) (k:=base+1+6 * k) (m:=6) (by omega) (by decide)
 have hwlt:=iS (ns:=ns) (k:=base+1+6 * k) (m:=6) (by decide)
 generalize dn ns (base+1+6 * k) 6=way at *;have first:∀{o:Option kh},kO (ρR ns base fin often (ls.map (Ln.t (wMain::fin))) (pl.map plD) (stk.map natD) (some (.sh (natD k))) none (some (.sh (natD (base+1+6 * k)))) (some (.sh (natD way))) s11 s12 s13 s14)=o->ip (ρR ns base fin often (ls.map (Ln.t (wMain::fin))) (pl.map plD) (stk.map natD) (some (.sh (natD k))) none s9 s10 s11 s12 s13 s14)=o:=λh=>
  a8 (aM (ab (ab rfl rfl (fE base 1)) (ab rfl rfl (BS (a:=6) (by decide))) (fE _ _))) (a8 (aM (dC rfl rfl rfl hway)) h)
 have hlim:ls.length<lim:=Nat.lt_of_le_of_lt (le_trans I.l1 (le_of_lt hk)) (by decide)
 have c1:∀(l4 l5:List D)(st:List Nat)(s11 s12 s13 s14:Option S),gp (eBin CQ (eVar 10) (eBin dAdd (eC (.int 1)) (eVar 3))) (eBin CQ (aJ (f1 cm) [(eH 6)]) (eC (.int 12))) (ρR ns base fin often l4 l5 (st.map natD) (some (.sh (natD k))) none (some (.sh (natD (base+1+6 * k)))) (some (.sh (natD way))) s11 s12 s13 s14)=okB (decide (way<1+often) && decide (st.length<12)):=λl4 l5 st s11 s12 s13 s14=>by
  refine CH (ab rfl (ab rfl rfl (fE 1 often)) ?_) (ab (iy (iU rfl) (kd natD st)) rfl ?_)
  ·exact HR _ _
  ·exact HR _ _
 have c2:∀(l4 l5:List D)(st:List Nat)(s11 s12 s13 s14:Option S),gp (eBin dEq (eVar 10) (eC (.int 5))) (eBin Eo (aJ (f1 cm) [(eH 6)]) (eC (.int 0))) (ρR ns base fin often l4 l5 (st.map natD) (some (.sh (natD k))) none (some (.sh (natD (base+1+6 * k)))) (some (.sh (natD way))) s11 s12 s13 s14)=okB (decide (way=5) && decide (0<st.length)):=λl4 l5 st s11 s12 s13 s14=>by
  refine CH (ab rfl rfl ?_) (ab (iy (iU rfl) (kd natD st)) rfl ?_)
  ·exact JS _ _
  ·exact Kc _ _
 have c3:∀(l4:List D)(pl:List (Nat×Nat))(st:List D)(s11 s12 s13 s14:Option S),gp (eBin (dIn false) (eVar 10) (gn [(eC (.int 3)),(eC (.int 4))])) (eBin CQ (aJ (f1 cm) [(eH 5)]) (eC (.int 11))) (ρR ns base fin often l4 (pl.map plD) st (some (.sh (natD k))) none (some (.sh (natD (base+1+6 * k)))) (some (.sh (natD way))) s11 s12 s13 s14)=okB (decide (way=3\/way=4) && decide (pl.length<11)):=λl4 pl st s11 s12 s13 s14=>by
  refine CH (ab rfl (gZ rfl rfl rfl) (Jr way)) (ab (iy (iU rfl) (kd plD pl)) rfl ?_);exact HR _ _
 by_cases A:way<1+often/\stk.length<12
 ·obtain⟨js,h0,h3,hj,ej⟩:=D8 (ns:=ns) l1 l6 hok (at_:=base+1+6 * k+1) (by omega)
  have n2:(decide (way=5) && decide (0<(stk++[orW js]).length))=false:=by rw[decide_eq_false (by omega)];rfl
  have n3:(decide (way=3\/way=4) && decide (pl.length<11))=false:=by rw[decide_eq_false (by omega)];rfl
  refine⟨ls++[.shut js],pl,stk++[orW js],some (.sh (natD (base+1+6 * k))),some (.sh (natD way)),some (.sh (.tup [Ln.t (wMain::fin) (.shut js),natD (orW js)])),s12,s13,s14,first ?_,⟨by rw[length_append,length_singleton];have:=I.l1;omega,I.l2,by rw[length_append,length_singleton];omega,I.go.app (.one (sV l1 l6 hok hN nd ho h0 h3 hj A.2))⟩⟩
  refine a8 (gT ((c1 _ _ _ _ _ _ _).trans (by rw[decide_eq_true A.1,decide_eq_true A.2];rfl)) (a8 (aM (dC rfl (ab rfl rfl (fE _ 1)) rfl ej)) (a8 (dD (s:=.sh (Ln.t (wMain::fin) (.shut js))) rfl (ab rfl rfl pf) (by rw[length_map];exact hlim)) (dD (s:=.sh (natD (orW js))) rfl (ab rfl rfl yJ) (by rw[length_map];exact lt_of_lt_of_le A.2 (by decide)))))) ?_
  show kN (ρR ns base fin often (ls.map (Ln.t (wMain::fin))++[Ln.t (wMain::fin) (.shut js)]) (pl.map plD) (stk.map natD++[natD (orW js)]) (some (.sh (natD k))) none (some (.sh (natD (base+1+6 * k)))) (some (.sh (natD way))) (some (.sh (.tup [Ln.t (wMain::fin) (.shut js),natD (orW js)]))) s12 s13 s14)=_;rw[show ls.map (Ln.t (wMain::fin))++[Ln.t (wMain::fin) (.shut js)]=(ls++[Ln.shut js]).map (Ln.t (wMain::fin)) by rw[map_append];rfl,show stk.map natD++[natD (orW js)]=(stk++[orW js]).map natD by rw[map_append];rfl]
  exact a8 (b6 ((c2 _ _ _ _ _ _ _).trans (by rw[n2])) rfl) (b6 ((c3 _ _ _ _ _ _ _).trans (by rw[n3])) rfl)
 ·have n1:(decide (way<1+often) && decide (stk.length<12))=false:=by
   rw[Bool.and_eq_false_iff,decide_eq_false_iff_not,decide_eq_false_iff_not];by_cases z:way<1+often
   ·exact .inr λy=>A ⟨z,y⟩
   ·exact .inl z
  by_cases Bq:way=5/\0<stk.length
  ·obtain⟨q',x,hq⟩:∃q' x,stk=q'++[x]:=by
    rcases List.eq_nil_or_concat stk with z|⟨q',x,z⟩
    ·rw[z] at Bq;exact absurd Bq.2 (by decide)
    ·exact⟨q',x,by rw[z,List.concat_eq_append]⟩
   have n3:(decide (way=3\/way=4) && decide (pl.length<11))=false:=by rw[decide_eq_false (by omega)];rfl
   have eo:Ln.t (wMain::fin) .opn=.str (Str.ofString "open"):=by rw[wM];rfl
   refine⟨ls++[.opn],pl,q',some (.sh (natD (base+1+6 * k))),some (.sh (natD way)),s11,s12,s13,s14,first ?_,⟨by rw[length_append,length_singleton];have:=I.l1;omega,I.l2,by have:=I.l3;rw[hq,length_append,length_singleton] at this;omega,I.go.app (.one (iW.opn (r:=⟨B,q++[pl],stk⟩) o7 hq))⟩⟩
   refine a8 (b6 ((c1 _ _ _ _ _ _ _).trans (by rw[n1])) rfl) (a8 (gT ((c2 _ _ _ _ _ _ _).trans (by rw[decide_eq_true Bq.1,decide_eq_true Bq.2];rfl)) (a8 (ρ':=ρR ns base fin often (ls.map (Ln.t (wMain::fin))) (pl.map plD) (q'.map natD) (some (.sh (natD k))) none (some (.sh (natD (base+1+6 * k)))) (some (.sh (natD way))) s11 s12 s13 s14) ?_ (dD (s:=.sh (Ln.t (wMain::fin) .opn)) rfl (by rw[eo];rfl) (by rw[length_map];exact hlim)))) ?_)
   ·show(if 0<(stk.map natD).length then some (kh.next (ρR ns base fin often (ls.map (Ln.t (wMain::fin))) (pl.map plD) ((stk.map natD).dropLast) (some (.sh (natD k))) none (some (.sh (natD (base+1+6 * k)))) (some (.sh (natD way))) s11 s12 s13 s14)) else none)=_;rw[if_pos (by rw[length_map];exact Bq.2),hq,map_append,List.map_singleton,List.dropLast_concat]
   ·show kM (ρR ns base fin often (ls.map (Ln.t (wMain::fin))++[Ln.t (wMain::fin) .opn]) (pl.map plD) (q'.map natD) (some (.sh (natD k))) none (some (.sh (natD (base+1+6 * k)))) (some (.sh (natD way))) s11 s12 s13 s14)=_;rw[show ls.map (Ln.t (wMain::fin))++[Ln.t (wMain::fin) .opn]=(ls++[Ln.opn]).map (Ln.t (wMain::fin)) by rw[map_append];rfl]
    exact b6 ((c3 _ _ _ _ _ _ _).trans (by rw[n3])) rfl
  ·have n2:(decide (way=5) && decide (0<stk.length))=false:=by
    rw[Bool.and_eq_false_iff,decide_eq_false_iff_not,decide_eq_false_iff_not];by_cases z:way=5
    ·exact .inr λy=>Bq ⟨z,y⟩
    ·exact .inl z
   by_cases C:(way=3\/way=4)/\pl.length<11
   ·have hd:=gX (ns:=ns) (k:=base+1+6 * k+1) (m:=9) (by omega) (by decide)
    have hdl:=iS (ns:=ns) (k:=base+1+6 * k+1) (m:=9) (by decide)
    generalize dn ns (base+1+6 * k+1) 9=d at *;obtain⟨s14',ef⟩:=Cn (ns:=ns) (base:=base) (fin:=fin) (often:=often) (l4:=(ls++[Ln.still (1+d)]).map (Ln.t (wMain::fin))) (l5:=pl.map plD) (l6:=stk.map natD) (s7:=some (.sh (natD k))) (s8:=none) (s9:=some (.sh (natD (base+1+6 * k)))) (s10:=some (.sh (natD way))) (s11:=s11) (s12:=some (.sh (natD (1+d)))) (tv:=.lst (stk.map natD)) (ts:=stk) 0 s14;refine⟨ls++[.still (1+d)],pl++[(1+d,CO stk)],stk,some (.sh (natD (base+1+6 * k))),some (.sh (natD way)),s11,some (.sh (natD (1+d))),some (.sh (natD (CO stk))),s14',first ?_,⟨by rw[length_append,length_singleton];have:=I.l1;omega,by rw[length_append,length_singleton];omega,I.l3,I.go.app (.one (iW.still (r:=⟨B,q++[pl],stk⟩) rfl (by omega) (by omega) (by omega)))⟩⟩
    refine a8 (b6 ((c1 _ _ _ _ _ _ _).trans (by rw[n1])) rfl) (a8 (b6 ((c2 _ _ _ _ _ _ _).trans (by rw[n2])) rfl) (gT ((c3 _ _ _ _ _ _ _).trans (by rw[decide_eq_true C.1,decide_eq_true C.2];rfl)) ?_))
    refine a8 (aM (ab rfl (dC rfl (ab rfl rfl (fE _ 1)) rfl hd) (fE 1 d))) (a8 (dD (s:=.sh (Ln.t (wMain::fin) (.still (1+d)))) rfl (ab rfl (cI rfl (Hi (by omega) (by omega))) ?_) (by rw[length_map];exact hlim)) (a8 (aM rfl) ?_))
    ·show dAdd (.str (Str.ofString "still ")) (tD [48+(1+d)])=_;rw[Be,pJ (by show 6+1<=1000;decide)]
     rfl
    ·show(aC (oJ 6 14 13 (eBin nW (eVar 13) (eVar 14))) (cH 5 (gn [(gn [(eC (.str "still")),(eVar 12)]),(eVar 13)]))) (ρR ns base fin often (ls.map (Ln.t (wMain::fin))++[Ln.t (wMain::fin) (.still (1+d))]) (pl.map plD) (stk.map natD) (some (.sh (natD k))) none (some (.sh (natD (base+1+6 * k)))) (some (.sh (natD way))) s11 (some (.sh (natD (1+d)))) (some (.sh (natD 0))) s14)=_;rw[show ls.map (Ln.t (wMain::fin))++[Ln.t (wMain::fin) (.still (1+d))]=(ls++[Ln.still (1+d)]).map (Ln.t (wMain::fin)) by rw[map_append];rfl]
     refine a8 ef ((dD (s:=.sh (plD (1+d,CO stk))) rfl (oB (s1:=.sh (.tup [tD b5,natD (1+d)])) (s2:=.sh (natD (CO stk))) (oB (s1:=.sh (tD b5)) (s2:=.sh (natD (1+d))) (by show okD (.str (Str.ofString "still"))=_;rw[lT]) rfl) rfl) (by rw[length_map];exact lt_of_lt_of_le C.2 (by decide))).trans ?_)
     rw[map_append (l₁:=pl)];rfl
   ·have n3:(decide (way=3\/way=4) && decide (pl.length<11))=false:=by
     rw[Bool.and_eq_false_iff,decide_eq_false_iff_not,decide_eq_false_iff_not];by_cases z:way=3\/way=4
     ·exact .inr λy=>C ⟨z,y⟩
     ·exact .inl z
    exact⟨ls,pl,stk,some (.sh (natD (base+1+6 * k))),some (.sh (natD way)),s11,s12,s13,s14,first (a8 (b6 ((c1 _ _ _ _ _ _ _).trans (by rw[n1])) rfl) (a8 (b6 ((c2 _ _ _ _ _ _ _).trans (by rw[n2])) rfl) (b6 ((c3 _ _ _ _ _ _ _).trans (by rw[n3])) rfl))),⟨Nat.le_succ_of_le I.l1,I.l2,I.l3,I.go⟩⟩
end
theorem oX{N:List (List Nat)}{B:List (List Nat×Nat)}{R:List (List (Nat×Nat))}(hR:R≠[]):∀(n:Nat)(stk:List Nat),stk.length=n->hV N ⟨B,R,stk⟩ (replicate n .opn) ⟨B,R,[]⟩
 |0,stk,h=>by
  obtain rfl:=List.eq_nil_of_length_eq_zero h;exact .nil
 |n+1,stk,h=>by
  rcases List.eq_nil_or_concat stk with z|⟨q',x,z⟩
  ·rw[z] at h;cases h
  ·rw[List.concat_eq_append] at z;rw[List.replicate_succ];refine .cons (iW.opn (r:=⟨B,R,stk⟩) hR z) (oX hR n q' ?_);rw[z,length_append,length_singleton] at h;omega
theorem FK{N:List (List Nat)}:Ln.t N .opn=tD hZ:=rfl
theorem qV{α:Type}{N:List (List Nat)}(l:List α):l.map (λ_=>tD hZ)=(replicate l.length Ln.opn).map (Ln.t N):=by
 rw[List.map_const',List.map_replicate,FK]
section
variable{ns:List Int}{fin:List (List Nat)}{B:List (List Nat×Nat)}{q:List (List (Nat×Nat))}{often:Nat}(l1:1<=fin.length)(l6:fin.length<=6)(hok:∀w∈fin,NmOk w)(hN:wMain::B.map (·.1)=wMain::fin)(nd:(wMain::fin).Nodup)(ho:often<=2)
include l1 l6 hok hN nd ho
theorem Fm{base:Nat}(hb:base<=2000):∃(ls:List Ln)(pl:List (Nat×Nat)),iQ [scD ns,natD base,lsD fin,natD often]=okD (.tup [.lst (ls.map (Ln.t (wMain::fin))),.tup (pl.map plD)])/\hV (wMain::fin) ⟨B,q++[[]],[]⟩ ls ⟨B,q++[pl],[]⟩/\pl≠[]/\pl.length<=12/\ls.length<=100:=by
 have hm:=gX (ns:=ns) (k:=base) (m:=21) (by omega) (by decide)
 have hml:=iS (ns:=ns) (k:=base) (m:=21) (by decide)
 generalize dn ns base 21=m at *;obtain⟨ρ',e,ls,pl,stk,s7,s9,s10,s11,s12,s13,s14,rfl,I⟩:=mr (bd:=aY 7) (body:=ip) natD (λk ρ=>∃(ls:List Ln)(pl:List (Nat×Nat))(stk:List Nat)(s7 s9 s10 s11 s12 s13 s14:Option S),ρ=ρR ns base fin often (ls.map (Ln.t (wMain::fin))) (pl.map plD) (stk.map natD) s7 none s9 s10 s11 s12 s13 s14/\RowI (wMain::fin) B q k ls pl stk) m
  (ρ:=ρR ns base fin often [] [] [] none none none none none none none none) ⟨[],[],[],none,none,none,none,none,none,none,rfl,⟨le_refl _,by decide,by decide,.nil⟩⟩ (by
  rintro k ρ hk ⟨ls,pl,stk,s7,s9,s10,s11,s12,s13,s14,rfl,I⟩
  obtain⟨ls',pl',stk',s9',s10',s11',s12',s13',s14',e,I'⟩:=Ew (ns:=ns) l1 l6 hok hN nd ho hb (Nat.lt_trans hk hml) I s9 s10 s11 s12 s13 s14;exact⟨_,_,rfl,e,ls',pl',stk',_,s9',s10',s11',s12',s13',s14',rfl,I'⟩)
 have hll:=I.l1;have hsl:=I.l3;have hpl:=I.l2;let ls1:=ls++replicate stk.length Ln.opn++[Ln.still 9];let pl1:=pl++[(9,0)];have g1:hV (wMain::fin) ⟨B,q++[[]],[]⟩ ls1 ⟨B,q++[pl1],[]⟩:=(I.go.app (oX o7 _ stk rfl)).app (.one (iW.still (r:=⟨B,q++[pl],[]⟩) rfl (by omega) (by decide) (by decide)))
 have hl1:ls1.length<=40:=by
  show(ls++replicate stk.length Ln.opn++[Ln.still 9]).length<=40;rw[length_append,length_append,length_replicate,length_singleton];omega
 have eo:(D.str (Str.ofString "open"))=tD hZ:=by rw[wM]
 have e1:eBin dAdd (eBin dAdd (eVar 4) (b3 [14] (fB (eVar 6)) (aY 14) bf (eC (.str "open")))) (du [(eC (.str "still 9"))]) [some (.sh (scD ns)),some (.sh (natD base)),some (.sh (lsD fin)),some (.sh (natD often)),some (.sh (.lst (ls.map (Ln.t (wMain::fin))))),some (.own (.lst (pl.map plD))),some (.sh (.lst (stk.map natD))),s7,none,s9,s10,s11,s12,s13,s14]=okL (ls1.map (Ln.t (wMain::fin))):=by
  have c:b3 [14] (fB (eVar 6)) (aY 14) bf (eC (.str "open")) [some (.sh (scD ns)),some (.sh (natD base)),some (.sh (lsD fin)),some (.sh (natD often)),some (.sh (.lst (ls.map (Ln.t (wMain::fin))))),some (.own (.lst (pl.map plD))),some (.sh (.lst (stk.map natD))),s7,none,s9,s10,s11,s12,s13,s14]=okL ((replicate stk.length Ln.opn).map (Ln.t (wMain::fin))):=by
   rw[<-qV stk];exact bR stk natD (λ_=>tD hZ) (iz rfl rfl) (le_trans hsl (by decide)) λx _=>⟨_,rfl,.sh (tD hZ),by rw[<-eo];rfl,rfl⟩
  refine ab (ab rfl c (mC (by rw[length_map,length_map,length_replicate];omega))) (t:=.own (.lst [.str (Str.ofString "still 9")])) rfl ?_
  refine(mC (by rw[length_append,length_map,length_map,length_replicate,length_singleton];omega)).trans ?_
  show okL _=okL ((ls++replicate stk.length Ln.opn++[Ln.still 9]).map (Ln.t (wMain::fin)));rw[map_append,map_append,Bd];rfl
 have ep:gn [(gn [(eC (.str "still")),(eC (.int 9))]),(eC (.int 0))] [some (.sh (scD ns)),some (.sh (natD base)),some (.sh (lsD fin)),some (.sh (natD often)),some (.own (.lst (ls1.map (Ln.t (wMain::fin))))),some (.own (.lst (pl.map plD))),some (.sh (.lst (stk.map natD))),s7,none,s9,s10,s11,s12,s13,s14]=okD (plD (9,0)):=oB (s1:=.sh (.tup [tD b5,natD 9])) (s2:=.sh (natD 0)) (oB (s1:=.sh (tD b5)) (s2:=.sh (natD 9)) (by show okD (.str (Str.ofString "still"))=_;rw[lT]) rfl) rfl
 have he:=gX (ns:=ns) (k:=base+127) (m:=6) (by omega) (by decide)
 have hel:=iS (ns:=ns) (k:=base+127) (m:=6) (by decide)
 generalize dn ns (base+127) 6=en at *;have epl:pl.map plD++[plD (9,0)]=pl1.map plD:=by show _=(pl++[(9,0)]).map plD;rw[map_append];rfl
 have start:∀{r:S},ny [some (.sh (scD ns)),some (.sh (natD base)),some (.sh (lsD fin)),some (.sh (natD often)),some (.own (.lst (ls1.map (Ln.t (wMain::fin))))),some (.own (.lst (pl1.map plD))),some (.sh (.lst (stk.map natD))),s7,some (.sh (natD en)),s9,s10,s11,s12,s13,s14]=some (.ret r)->iQ [scD ns,natD base,lsD fin,natD often]=some (.ok r):=λ{r} h=>
  bq rfl (a8 (aM rfl) (a8 (aM rfl) (a8 (aM rfl) (a8 (nI (eN (dC rfl rfl rfl hm) (by omega)) e) (aN (aN (a8 (aM e1) (a8 (dD rfl ep (by rw[length_map];exact Nat.lt_of_le_of_lt hpl (by decide))) (by
   show nz [some (.sh (scD ns)),some (.sh (natD base)),some (.sh (lsD fin)),some (.sh (natD often)),some (.own (.lst (ls1.map (Ln.t (wMain::fin))))),some (.own (.lst (pl.map plD++[plD (9,0)]))),some (.sh (.lst (stk.map natD))),s7,none,s9,s10,s11,s12,s13,s14]=_;rw[epl];exact a8 (aM (dC rfl (ab rfl rfl (fE base 127)) rfl he)) h)))))))))
 have hp1:pl1.length<=12:=by show(pl++[(9,0)]).length<=12;rw[length_append,length_singleton];omega
 have hpn:pl1≠[]:=List.append_ne_nil_of_right_ne_nil _ (cons_ne_nil _ _);by_cases c2:en<2
 ·let j:=en % fin.length;have hj:j<fin.length:=Nat.mod_lt _ (by omega)
  let sh:List Ln:=replicate (en+1) (Ln.shut [j+1]);let op:List Ln:=replicate (en+1) Ln.opn;have hjs:∀x∈[j+1],1<=x/\x<(wMain::fin).length:=λx hx=>by rw[mem_singleton.mp hx,length_cons];omega
  have gs:∃st:List Nat,st.length=en+1/\hV (wMain::fin) ⟨B,q++[pl1],[]⟩ sh ⟨B,q++[pl1],st⟩:=by
   have o1:=sV (q:=q) (pl:=pl1) (stk:=[]) l1 l6 hok hN nd ho (cons_ne_nil (j+1) []) (by show 1<=3;decide) hjs (by decide)
   have o2:=sV (q:=q) (pl:=pl1) (stk:=[orW [j+1]]) l1 l6 hok hN nd ho (cons_ne_nil (j+1) []) (by show 1<=3;decide) hjs (by show 1<12;decide)
   have:en=0\/en=1:=by omega
   rcases this with z|z
   ·refine⟨[orW [j+1]],by rw[z];rfl,?_⟩
    show hV _ _ (replicate (en+1) _) _;rw[z];exact .one o1
   ·refine⟨[orW [j+1],orW [j+1]],by rw[z];rfl,?_⟩
    show hV _ _ (replicate (en+1) _) _;rw[z];exact .cons o1 (.one o2)
  obtain⟨st,hst,gs⟩:=gs;have go:=oX (N:=wMain::fin) (B:=B) (R:=q++[pl1]) o7 (en+1) st hst;have fname:(Ln.shut [j+1]).t (wMain::fin)=tD (wShut++[32]++fin.getD j []):=by
   show tD (jw [wShut,fin.getD j []])=_;rw[ml];rfl
  have ix:∀(l4 l5:Option S)(s7:Option S),eBin dAdd (eC (.str "shut ")) (eBin dj (eVar 2) (eBin lI (eVar 8) (aJ (f1 cm) [(eH 2)]))) [some (.sh (scD ns)),some (.sh (natD base)),some (.sh (lsD fin)),some (.sh (natD often)),l4,l5,some (.sh (.lst (stk.map natD))),s7,some (.sh (natD en)),s9,s10,s11,s12,s13,s14]=okD ((Ln.shut [j+1]).t (wMain::fin)):=λl4 l5 s7=>by
   have hm:lI (natD en) (natD fin.length)=okI (j:Nat):=jZ (by omega)
   refine ab rfl (ab rfl (ab rfl (iy (iU rfl) p9) hm) (xI l1 l6 hok hj)) ?_;have h8:=(hok _ (iO hj)).l8;rw[fname];show dAdd (.str (Str.ofString "shut ")) (tD (fin.getD j []))=_;rw[ym,pJ (by show 5+_<=1000;omega)]
  have a1:eBin dAdd (eVar 4) (b3 [7] (b7 (eBin dAdd (eVar 8) (eC (.int 1)))) (aY 7) bf (eBin dAdd (eC (.str "shut ")) (eBin dj (eVar 2) (eBin lI (eVar 8) (aJ (f1 cm) [(eH 2)]))))) [some (.sh (scD ns)),some (.sh (natD base)),some (.sh (lsD fin)),some (.sh (natD often)),some (.sh (.lst (ls1.map (Ln.t (wMain::fin))))),some (.own (.lst (pl1.map plD))),some (.sh (.lst (stk.map natD))),s7,some (.sh (natD en)),s9,s10,s11,s12,s13,s14]=okL ((ls1++sh).map (Ln.t (wMain::fin))):=by
   have c:b3 [7] (b7 (eBin dAdd (eVar 8) (eC (.int 1)))) (aY 7) bf (eBin dAdd (eC (.str "shut ")) (eBin dj (eVar 2) (eBin lI (eVar 8) (aJ (f1 cm) [(eH 2)])))) [some (.sh (scD ns)),some (.sh (natD base)),some (.sh (lsD fin)),some (.sh (natD often)),some (.sh (.lst (ls1.map (Ln.t (wMain::fin))))),some (.own (.lst (pl1.map plD))),some (.sh (.lst (stk.map natD))),s7,some (.sh (natD en)),s9,s10,s11,s12,s13,s14]=okL (sh.map (Ln.t (wMain::fin))):=by
    rw[show sh.map (Ln.t (wMain::fin))=(List.range (en+1)).map λ_=>(Ln.shut [j+1]).t (wMain::fin) by
     show(replicate (en+1) (Ln.shut [j+1])).map _=_;rw[List.map_const',List.map_replicate,length_range]]
    exact bR (List.range (en+1)) natD (λ_=>(Ln.shut [j+1]).t (wMain::fin)) (eN (ab rfl rfl (fE en 1)) (by omega)) (by rw[length_range];exact le_trans (show en+1<=10 by omega) (by decide)) λx _=>⟨_,rfl,.sh _,ix _ _ _,rfl⟩
   refine ab rfl c ((mC (by rw[length_map,length_map];show _+(replicate (en+1) _).length<=_;rw[length_replicate];omega)).trans ?_)
   rw[map_append (l₁:=ls1)]
  have a2:eBin dAdd (eVar 4) (b3 [7] (b7 (eBin dAdd (eVar 8) (eC (.int 1)))) (aY 7) bf (eC (.str "open"))) [some (.sh (scD ns)),some (.sh (natD base)),some (.sh (lsD fin)),some (.sh (natD often)),some (.sh (.lst ((ls1++sh).map (Ln.t (wMain::fin))))),some (.own (.lst (pl1.map plD))),some (.sh (.lst (stk.map natD))),s7,some (.sh (natD en)),s9,s10,s11,s12,s13,s14]=okL ((ls1++sh++op).map (Ln.t (wMain::fin))):=by
   have c:b3 [7] (b7 (eBin dAdd (eVar 8) (eC (.int 1)))) (aY 7) bf (eC (.str "open")) [some (.sh (scD ns)),some (.sh (natD base)),some (.sh (lsD fin)),some (.sh (natD often)),some (.sh (.lst ((ls1++sh).map (Ln.t (wMain::fin))))),some (.own (.lst (pl1.map plD))),some (.sh (.lst (stk.map natD))),s7,some (.sh (natD en)),s9,s10,s11,s12,s13,s14]=okL (op.map (Ln.t (wMain::fin))):=by
    rw[show op.map (Ln.t (wMain::fin))=(List.range (en+1)).map λ_=>tD hZ by
     show(replicate (en+1) Ln.opn).map _=_;rw[qV (N:=wMain::fin),length_range]]
    exact bR (List.range (en+1)) natD (λ_=>tD hZ) (eN (ab rfl rfl (fE en 1)) (by omega)) (by rw[length_range];exact le_trans (show en+1<=10 by omega) (by decide)) λx _=>⟨_,rfl,.sh (tD hZ),by rw[<-eo];rfl,rfl⟩
   refine ab rfl c ((mC (by rw[length_map,length_map,length_append];show _+(replicate (en+1) _).length+(replicate (en+1) _).length<=_;rw[length_replicate,length_replicate];omega)).trans ?_)
   rw[map_append (l₁:=ls1++sh)]
  refine⟨ls1++sh++op,pl1,start (a8 (gT (ab rfl rfl ((HR en 2).trans (by rw[decide_eq_true c2]))) (aN (a8 (aM a1) (aN (aM a2))))) (aN (aN (bX (oB (s1:=.sh (.lst ((ls1++sh++op).map (Ln.t (wMain::fin))))) (s2:=.sh (.tup (pl1.map plD))) rfl (cI rfl rfl)))))),(g1.app gs).app go,hpn,hp1,?_⟩
  rw[length_append,length_append];show _+(replicate (en+1) _).length+(replicate (en+1) _).length<=_;rw[length_replicate,length_replicate];omega
 ·exact⟨ls1,pl1,start (a8 (b6 (ab rfl rfl ((HR en 2).trans (by rw[decide_eq_false c2]))) rfl) (aN (aN (bX (oB (s1:=.sh (.lst (ls1.map (Ln.t (wMain::fin))))) (s2:=.sh (.tup (pl1.map plD))) rfl (cI rfl rfl)))))),g1,hpn,hp1,by omega⟩
end
def xN(m:Nat):List (List Nat):=(List.range m).map λk=>replicate (k+1) 120
theorem GY{k:Nat}(h:k<6):Txt.slice (Str.ofString "xxxxxx") none (some ((k+1:Nat):Int))=T (replicate (k+1) 120):=by
 have key:∀k<6,Txt.slice (Str.ofString "xxxxxx") none (some ((k+1:Nat):Int))=T (replicate (k+1) 120):=by decide +kernel
 exact key k h
theorem GZ{m:Nat}(h6:m<=6):(xN m).length=m/\(∀w∈xN m,NmOk w)/\(xN m).Nodup/\wMain∉xN m:=by
 unfold xN;refine⟨by rw[length_map,length_range],λw hw=>?_,md λi j hij hj e=>?_,λz=>?_⟩
 ·obtain⟨k,hk,rfl⟩:=mem_map.mp hw;have hk:=mem_range.mp hk;exact⟨by rw[length_replicate];omega,by rw[length_replicate];omega,λc hc=>by rw[List.eq_of_mem_replicate hc];omega⟩
 ·have:=congrArg List.length e;rw[length_replicate,length_replicate] at this;omega
 ·obtain⟨k,hk,e⟩:=mem_map.mp z;have:(109:Nat)∈replicate (k+1) 120:=by rw[e];decide
  have:=List.eq_of_mem_replicate this;omega
theorem Dc{B:List (List Nat×Nat)}{R:List (List (Nat×Nat))}(h:R=[]\/∃q x,R=q++[x]/\x≠[]):Rd.rests ⟨B,R,[]⟩:=by
 rcases h with h|⟨q,x,h,hx⟩
 ·exact .inl h
 ·exact .inr ⟨q,x,h,hx,rfl⟩
abbrev ρL(ns:List Int)(m:Nat)(s2:Option S)(s3 s4 s5 s6 s7 s8 s9:Option S):aA:=[some (.sh (scD ns)),some (.sh (natD m)),s2,s3,s4,s5,s6,s7,s8,s9]
def wq(ns:List Int)(k:Nat):Nat:=1+dn ns (14+k) 9
def bh(ns:List Int)(fin:List (List Nat))(k:Nat):List (List Nat×Nat):=(List.range k).map λi=>(fin.getD i [],wq ns i)
theorem Da:Str.ofString "bell " = T (gD++[32]):=by decide +kernel
theorem Fh:Str.ofString "row " = T (mJ++[32]):=by decide +kernel
theorem jQ{ns:List Int}{fin:List (List Nat)}{k:Nat}(hk:k<=fin.length):(bh ns fin k).map (·.1)=fin.take k:=by
 unfold bh;rw[map_map];refine List.ext_getElem? λi=>?_;by_cases h:i<k
 ·rw[getElem?_map,getElem?_range h,List.getElem?_take_of_lt h];show some (fin.getD i [])=_;rw[getD_eq_getElem?_getD,getElem?_eq_getElem (by omega)];rfl
 ·rw[getElem?_eq_none (by rw[length_map,length_range];omega),getElem?_eq_none (by rw[length_take];omega)]
section
variable{ns:List Int}{fin:List (List Nat)}(l1:1<=fin.length)(l6:fin.length<=6)(hok:∀w∈fin,NmOk w)(nd:(wMain::fin).Nodup)
include l1 l6 hok nd
theorem ya:∃(ls:List Ln)(s2 s5:Option S),(s2=some (.sh (lsD fin))\/s2=some (.own (.lst (fin.map tD))))/\∀s2':Option S,(s2'=some (.sh (lsD fin))\/s2'=some (.own (.lst (fin.map tD))))->∀s3:Option S,∃s5 s2'':Option S,(s2''=some (.sh (lsD fin))\/s2''=some (.own (.lst (fin.map tD))))/\lV (b7 (eVar 1)) (aY 5) u5 (ρL ns fin.length s2' s3 (some (.own (.lst []))) none none none none none)=some (.next (ρL ns fin.length s2'' s3 (some (.own (.lst (ls.map (Ln.t (wMain::fin)))))) s5 none none none none))/\hV (wMain::fin) ⟨[],[],[]⟩ ls ⟨bh ns fin fin.length,[],[]⟩/\ls.length<=10:=by
 let lsN:Nat->List Ln:=λk=>(List.range k).map λi=>Ln.bell (i+1) (wq ns i);have rk:∀i,1<=wq ns i/\wq ns i<=9:=λi=>by have:=iS (ns:=ns) (k:=14+i) (m:=9) (by decide);unfold wq;omega
 have go:∀k,k<=fin.length->hV (wMain::fin) ⟨[],[],[]⟩ (lsN k) ⟨bh ns fin k,[],[]⟩:=λk=>by
  induction k with
  |zero=>exact λ_=>.nil
  |succ k ih=>
   intro hk;have hbn:=jQ (ns:=ns) (fin:=fin) (k:=k) (by omega)
   have hlt:k<fin.length:=by omega
   have hg:(wMain::fin).getD (k+1) []=fin.getD k []:=rfl;have hat:fin.getD k []=fin[k]:=by rw[getD_eq_getElem?_getD,getElem?_eq_getElem hlt];rfl
   have o:iW (wMain::fin) ⟨bh ns fin k,[],[]⟩ (.bell (k+1) (wq ns k)) ⟨bh ns fin k++[(fin.getD k [],wq ns k)],[],[]⟩:=by
    refine iW.bell (r:=⟨bh ns fin k,[],[]⟩) rfl ?_ ?_ ?_ (rk k).1 (rk k).2
    ·show(bh ns fin k).length<6;unfold bh;rw[length_map,length_range];omega
    ·rw[hg];exact hok _ (iO hlt)
    ·show(wMain::fin).getD (k+1) []∉wMain::(bh ns fin k).map (·.1);rw[hg,hbn,hat];intro z;rcases mem_cons.mp z with z|z
     ·exact(nodup_cons.mp nd).1 (by rw[<-z];exact getElem_mem hlt)
     ·obtain⟨i,hi,e⟩:=List.mem_take_iff_getElem.mp z;have hik:i<k:=by omega
      exact List.pairwise_iff_getElem.mp (nodup_cons.mp nd).2 i k (by omega) hlt hik e
   have e1:lsN (k+1)=lsN k++[.bell (k+1) (wq ns k)]:=by
    show(List.range (k+1)).map _=(List.range k).map _++_;rw[range_succ,map_append];rfl
   have e2:bh ns fin (k+1)=bh ns fin k++[(fin.getD k [],wq ns k)]:=by unfold bh;rw[range_succ,map_append];rfl
   rw[e1,e2];exact(ih (by omega)).app (.one o)
 refine⟨lsN fin.length,some (.sh (lsD fin)),none,.inl rfl,λs2' h2 s3=>?_⟩;obtain⟨ρ',e,s2'',s5,h2'',rfl⟩:=mr (bd:=aY 5) (body:=u5) natD (λk ρ=>∃s2'' s5:Option S,(s2''=some (.sh (lsD fin))\/s2''=some (.own (.lst (fin.map tD))))/\ρ=ρL ns fin.length s2'' s3 (some (.own (.lst ((lsN k).map (Ln.t (wMain::fin)))))) s5 none none none none) fin.length (ρ:=ρL ns fin.length s2' s3 (some (.own (.lst []))) none none none none none) ⟨s2',none,h2,rfl⟩ (by
  rintro k ρ hk ⟨s2'',s5,h2'',rfl⟩
  have hd:=gX (ns:=ns) (k:=14+k) (m:=9) (by omega) (by decide)
  have st:(cH 4 (eBin dAdd (eBin dAdd (eBin dAdd (eC (.str "bell ")) (eBin dj (eVar 2) (eVar 5))) (eC (.str " "))) (au (f1 pF) [(eBin dAdd (eC (.int 1)) (au ax [(eVar 0),(eBin dAdd (eC (.int 14)) (eVar 5)),(eC (.int 9))]))]))) (ρL ns fin.length (some (.sh (lsD fin))) s3 (some (.own (.lst ((lsN k).map (Ln.t (wMain::fin)))))) (some (.sh (natD k))) none none none none)=some (.next (ρL ns fin.length (some (.sh (lsD fin))) s3 (some (.own (.lst ((lsN (k+1)).map (Ln.t (wMain::fin)))))) (some (.sh (natD k))) none none none none)):=by
   have h8:=(hok _ (iO hk)).l8;refine(dD (s:=.sh (Ln.t (wMain::fin) (.bell (k+1) (wq ns k)))) rfl (ab (s:=.sh (tD (gD++[32]++fin.getD k []++[32]))) (t:=.sh (tD [48+wq ns k])) (ab (s:=.sh (tD (gD++[32]++fin.getD k []))) (t:=.sh (tD [32])) (ab (s:=.sh (tD (gD++[32]))) (t:=.sh (tD (fin.getD k []))) (by show okD (.str (Str.ofString "bell "))=_;rw[Da]) (ab rfl rfl (xI l1 l6 hok hk)) (pJ (by show 5+_<=_;omega))) (by show okD (.str (Str.ofString " "))=_;rw[Hn]) (pJ ?_)) (cI (ab rfl (dC rfl (ab rfl rfl (fE 14 k)) rfl hd) (fE 1 _)) (Hi (rk k).1 (rk k).2)) ((pJ ?_).trans ?_)) ?_).trans ?_
   ·rw[length_append];show 5+_+1<=_;omega
   ·rw[length_append,length_append];show 5+_+1+1<=_;omega
   ·show _=okD (tD (jw [gD,fin.getD k [],[48+wq ns k]]));rw[ml,ml];show okD (tD _)=okD (tD _);rw[show gD++[32]++fin.getD k []++[32]++[48+wq ns k]=gD++[32]++(fin.getD k []++[32]++jw [[48+wq ns k]]) by simp only[append_assoc];rfl]
   ·rw[length_map];show((List.range k).map _).length<lim;rw[length_map,length_range];exact lt_of_lt_of_le (show k<10 by omega) (by decide)
   ·rw[show(lsN (k+1)).map (Ln.t (wMain::fin))=(lsN k).map (Ln.t (wMain::fin))++[Ln.t (wMain::fin) (.bell (k+1) (wq ns k))] by
     show((List.range (k+1)).map _).map _=_;rw[range_succ,map_append,map_append];rfl]
    rfl
  refine⟨_,_,rfl,?_,some (.sh (lsD fin)),some (.sh (natD k)),.inl rfl,rfl⟩;refine aN ((congrArg _ ?_).trans st);rcases h2'' with rfl|rfl <;> rfl)
 refine⟨s5,s2'',h2'',nI (eN rfl (by omega)) e,go _ (le_refl _),?_⟩
 show((List.range fin.length).map _).length<=10;rw[length_map,length_range];omega
end
def sF(ns:List Int):Nat->Nat
 |0=>0
 |k+1=>wq ns k
theorem wR(l:List (List Nat)):(List.range l.length).map (λi=>l.getD i [])=l:=by
 refine List.ext_getElem? λi=>?_;by_cases h:i<l.length
 ·rw[getElem?_map,getElem?_range h,getElem?_eq_getElem h];show some (l.getD i [])=_;rw[getD_eq_getElem?_getD,getElem?_eq_getElem h];rfl
 ·rw[getElem?_eq_none (by rw[length_map,length_range];omega),getElem?_eq_none (by omega)]
structure LawI(ns:List Int)(fin:List (List Nat))(k:Nat)(ls:List Ln)(X:List Rw8):Prop where
 nm:X.map (·.1)=(List.range k).map λi=>(wMain::fin).getD i []
 rk:X.map (·.2.1)=(List.range k).map (sF ns)
 ok:∀x∈X,x.2.2≠[]/\x.2.2.length<=12
 ll:ls.length<=10+101 * k
 go:hV (wMain::fin) ⟨[],[],[]⟩ ls ⟨bh ns fin fin.length,X.map (·.2.2),[]⟩
theorem LawI.len{ns:List Int}{fin:List (List Nat)}{k:Nat}{ls:List Ln}{X:List Rw8}(h:LawI ns fin k ls X):X.length=k:=by
 have:=congrArg List.length h.nm;rwa[length_map,length_map,length_range] at this
theorem LawI.re{ns:List Int}{fin:List (List Nat)}{k:Nat}{ls:List Ln}{X:List Rw8}(h:LawI ns fin k ls X):Rd.rests ⟨bh ns fin fin.length,X.map (·.2.2),[]⟩:=by
 refine Dc ?_;rcases List.eq_nil_or_concat X with z|⟨q,x,z⟩
 ·exact .inl (by rw[z];rfl)
 ·refine .inr ⟨q.map (·.2.2),x.2.2,?_,(h.ok x (by rw[z,List.concat_eq_append];simp)).1⟩
  rw[z,List.concat_eq_append,map_append];rfl
section
variable{ns:List Int}{fin:List (List Nat)}{often:Nat}(l1:1<=fin.length)(l6:fin.length<=6)(hok:∀w∈fin,NmOk w)(nd:(wMain::fin).Nodup)(ho:often<=2)
include l1 l6 hok nd ho
theorem C2{k:Nat}(hk:k<fin.length+1){ls:List Ln}{X:List Rw8}(I:LawI ns fin k ls X){s2 s7 s8 s9:Option S}(h2:s2=some (.sh (lsD fin))\/s2=some (.own (.lst (fin.map tD)))):
  ∃ls' X' s7' s8' s9',u4 (ρL ns fin.length s2 (some (.sh (natD often))) (some (.own (.lst (ls.map (Ln.t (wMain::fin)))))) (some (.sh (natD k))) (some (.own (.lst (X.map rwD)))) s7 s8 s9)=some (.next (ρL ns fin.length (some (.sh (lsD fin))) (some (.sh (natD often))) (some (.own (.lst (ls'.map (Ln.t (wMain::fin)))))) (some (.sh (natD k))) (some (.own (.lst (X'.map rwD)))) s7' s8' s9'))/\LawI ns fin (k+1) ls' X':=by
 have hBn:wMain::(bh ns fin fin.length).map (·.1)=wMain::fin:=by rw[jQ (le_refl _),take_length]
 have hNl:(wMain::fin).length=fin.length+1:=length_cons;have hwk:NmOk ((wMain::fin).getD k []):=by
  have:=iO (N:=wMain::fin) (j:=k) (by omega)
  rcases mem_cons.mp this with z|z
  ·rw[z];exact yD
  ·exact hok _ z
 obtain⟨lr,pl,er,gr,hpn,hpl,hlr⟩:=Fm (ns:=ns) (B:=bh ns fin fin.length) (q:=X.map (·.2.2)) l1 l6 hok hBn nd ho (base:=30+130 * k) (by omega)
 have orow:iW (wMain::fin) ⟨bh ns fin fin.length,X.map (·.2.2),[]⟩ (.row k) ⟨bh ns fin fin.length,X.map (·.2.2)++[[]],[]⟩:=by
  refine iW.row (r:=⟨bh ns fin fin.length,X.map (·.2.2),[]⟩) ?_ hwk ?_ I.re
  ·show(bh ns fin fin.length).length<=6;unfold bh;rw[length_map,length_range];exact l6
  ·show(wMain::(bh ns fin fin.length).map (·.1))[(X.map (·.2.2)).length]?=_;rw[hBn,length_map,I.len,getD_eq_getElem?_getD,getElem?_eq_getElem (by omega)];rfl
 let ls':=ls++[Ln.row k]++lr;let x:Rw8:=((wMain::fin).getD k [],sF ns k,pl);let X':=X++[x];have I':LawI ns fin (k+1) ls' X':=by
  refine⟨?_,?_,λy hy=>?_,?_,?_⟩
  ·show(X++[x]).map (·.1)=_;rw[map_append,I.nm,range_succ,map_append];rfl
  ·show(X++[x]).map (·.2.1)=_;rw[map_append,I.rk,range_succ,map_append];rfl
  ·rcases mem_append.mp hy with hy|hy
   ·exact I.ok y hy
   ·rw[mem_singleton.mp hy];exact⟨hpn,hpl⟩
  ·show(ls++[Ln.row k]++lr).length<=_;rw[length_append,length_append,length_singleton];have:=I.ll;omega
  ·show hV _ _ (ls++[Ln.row k]++lr) ⟨_,(X++[x]).map (·.2.2),[]⟩;rw[map_append];exact(I.go.app (.one orow)).app gr
 have e8:∀(s4 s6 s7 s9:Option S),eBin dj (eBin dAdd (du [(eC (.str "main"))]) (eVar 2)) (eVar 5) (ρL ns fin.length (some (.sh (lsD fin))) (some (.sh (natD often))) s4 (some (.sh (natD k))) s6 s7 s8 s9)=okD (tD ((wMain::fin).getD k [])):=λs4 s6 s7 s9=>by
  have em:Str.ofString "main" = T wMain:=by decide +kernel
  refine ab (s:=.own (.lst ((wMain::fin).map tD))) (ab (s:=.own (.lst [.str (Str.ofString "main")])) rfl rfl ?_) rfl (lC ?_)
  ·rw[em];exact mC (by show 1+(fin.map tD).length<=_;rw[length_map];omega)
  ·rw[getElem?_map,getElem?_eq_getElem (by omega),getD_eq_getElem?_getD,getElem?_eq_getElem (by omega)];rfl
 have hll:=I.ll;have tail:∀s9:Option S,rH (ρL ns fin.length (some (.sh (lsD fin))) (some (.sh (natD often))) (some (.own (.lst (ls.map (Ln.t (wMain::fin)))))) (some (.sh (natD k))) (some (.own (.lst (X.map rwD)))) (some (.sh (.tup [.lst (lr.map (Ln.t (wMain::fin))),.tup (pl.map plD)]))) (some (.sh (tD ((wMain::fin).getD k [])))) (some (.sh (natD (sF ns k)))))=some (.next (ρL ns fin.length (some (.sh (lsD fin))) (some (.sh (natD often))) (some (.own (.lst (ls'.map (Ln.t (wMain::fin)))))) (some (.sh (natD k))) (some (.own (.lst (X'.map rwD)))) (some (.sh (.tup [.lst (lr.map (Ln.t (wMain::fin))),.tup (pl.map plD)]))) (some (.sh (tD ((wMain::fin).getD k [])))) (some (.sh (natD (sF ns k)))))):=λ_=>by
  have h8:=hwk.l8;have er:eBin dAdd (eC (.str "row ")) (eVar 8) (ρL ns fin.length (some (.sh (lsD fin))) (some (.sh (natD often))) (some (.sh (.lst (ls.map (Ln.t (wMain::fin)))))) (some (.sh (natD k))) (some (.own (.lst (X.map rwD)))) (some (.sh (.tup [.lst (lr.map (Ln.t (wMain::fin))),.tup (pl.map plD)]))) (some (.sh (tD ((wMain::fin).getD k [])))) (some (.sh (natD (sF ns k)))))=okD (Ln.t (wMain::fin) (.row k)):=by
   refine ab rfl rfl ?_;show dAdd (.str (Str.ofString "row ")) (tD ((wMain::fin).getD k []))=_;rw[Fh,pJ (by show 4+_<=_;omega)]
   show _=okD (tD (jw [mJ,(wMain::fin).getD k []]));rw[ml];rfl
  refine aN (a8 (aM (s:=.own (.lst (ls'.map (Ln.t (wMain::fin))))) (ab (s:=.own (.lst (ls.map (Ln.t (wMain::fin))++[Ln.t (wMain::fin) (.row k)]))) (ab rfl (cI er rfl) (mC ?_)) (ab rfl rfl pf) ((mC ?_).trans ?_))) ((dD (s:=.sh (rwD x)) rfl (dC (s1:=.sh (tD ((wMain::fin).getD k []))) (s2:=.sh (natD (sF ns k))) (s3:=.sh (.tup (pl.map plD))) rfl rfl (ab rfl rfl yJ) rfl) ?_).trans ?_))
  ·rw[length_map];show _+1<=_;omega
  ·rw[length_append,length_map,length_map,length_singleton];omega
  ·show okL _=okL ((ls++[Ln.row k]++lr).map (Ln.t (wMain::fin)));rw[map_append,map_append];rfl
  ·rw[length_map,I.len];exact lt_of_lt_of_le (show k<10 by omega) (by decide)
  ·show some (kh.next (ρL ns fin.length _ _ _ _ (some (.own (.lst (X.map rwD++[rwD x])))) _ _ _))=_;rw[show X'.map rwD=X.map rwD++[rwD x] by show(X++[x]).map rwD=_;rw[map_append];rfl]
 refine⟨ls',X',some (.sh (.tup [.lst (lr.map (Ln.t (wMain::fin))),.tup (pl.map plD)])),some (.sh (tD ((wMain::fin).getD k []))),some (.sh (natD (sF ns k))),?_,I'⟩;have hdem:dem 2 (ρL ns fin.length s2 (some (.sh (natD often))) (some (.own (.lst (ls.map (Ln.t (wMain::fin)))))) (some (.sh (natD k))) (some (.own (.lst (X.map rwD)))) s7 s8 s9)=ρL ns fin.length (some (.sh (lsD fin))) (some (.sh (natD often))) (some (.own (.lst (ls.map (Ln.t (wMain::fin)))))) (some (.sh (natD k))) (some (.own (.lst (X.map rwD)))) s7 s8 s9:=by rcases h2 with rfl|rfl <;> rfl
 refine aN ?_;rw[hdem];refine a8 (aM (Ih rfl (ab rfl (ab rfl rfl (BS (a:=130) (by decide))) (fE 30 _)) rfl rfl er)) (aN (a8 (aM (e8 _ _ _ _)) (a8 (aM rfl) ?_)))
 cases k with
 |zero=>exact a8 (b6 (ab rfl rfl (Jt (by decide))) rfl) (tail none)
 |succ k=>
  have hd:=gX (ns:=ns) (k:=13+(k+1)) (m:=9) (by omega) (by decide)
  have e9:1+dn ns (13+(k+1)) 9=sF ns (k+1):=by show _=1+dn ns (14+k) 9;rw[show 14+k=13+(k+1) by omega]
  exact a8 (gT (ab rfl rfl (Js (by omega))) (aM (s:=.sh (natD (sF ns (k+1)))) (ab rfl (dC rfl (ab rfl rfl (fE 13 (k+1))) rfl hd) ((fE 1 _).trans (by rw[e9]))))) (tail none)
end
theorem Bs(p:Nat×Nat):hJ 2 (plD p):=.tup 1 _ (λd hd=>by
 rcases mem_cons.mp hd with rfl|hd
 ·exact .tup 0 _ (λd hd=>by
   rcases mem_cons.mp hd with rfl|hd
   ·exact .str 0 _
   ·rw[mem_singleton.mp hd];exact .int 0 _) (by show 2<=lim;decide)
 ·rw[mem_singleton.mp hd];exact .int 1 _) (by show 2<=lim;decide)
theorem Br(x:Rw8)(h:x.2.2.length<=12):hJ 4 (rwD x):=.tup 3 _ (λd hd=>by
 rcases mem_cons.mp hd with rfl|hd
 ·exact .str 3 _
 ·rcases mem_cons.mp hd with rfl|hd
  ·exact .int 3 _
  ·rw[mem_singleton.mp hd];refine .tup 2 _ (λd hd=>?_) (by rw[length_map];exact le_trans h (by decide))
   obtain⟨p,_,rfl⟩:=mem_map.mp hd;exact Bs p) (by show 3<=lim;decide)
theorem law_true(ns:List Int)(_:ns.length<=63):yQ [.lst (ns.map D.int)]=some (.ok (.sh (.bl true))):=by
 have h0:=gX (ns:=ns) (k:=0) (m:=6) (by decide) (by decide)
 have h0l:=iS (ns:=ns) (k:=0) (m:=6) (by decide)
 obtain⟨nms,en,nl,nok,nnd⟩:=BQ (ns:=ns) (m:=1+dn ns 0 6) (by omega) (by omega)
 have em:Str.ofString "main" = T wMain:=by decide +kernel
 obtain⟨fin,s2,es2,fl,fok,fnd,h2⟩:∃(fin:List (List Nat))(s2:Option S),(∀s3 s4 s5 s6 s7 s8 s9:Option S,(sIf (eBin (dIn false) (eC (.str "main")) (eVar 2)) (sSet 2 (b3 [5] (b7 (eVar 1)) (aY 5) bf (mx (eC (.str "xxxxxx")) none (some (eBin dAdd (eVar 5) (eC (.int 1))))))) bp) (ρL ns (1+dn ns 0 6) (some (.sh (lsD nms))) none none none none none none none)=some (.next (ρL ns (1+dn ns 0 6) s2 none none none none none none none)))/\fin.length=1+dn ns 0 6/\(∀w∈fin,NmOk w)/\(wMain::fin).Nodup/\(s2=some (.sh (lsD fin))\/s2=some (.own (.lst (fin.map tD)))):=by
  have hin:eBin (dIn false) (eC (.str "main")) (eVar 2) (ρL ns (1+dn ns 0 6) (some (.sh (lsD nms))) none none none none none none none)=okB (decide (wMain∈nms)):=ab (s:=.sh (tD wMain)) (by show okD (.str (Str.ofString "main"))=_;rw[em]) rfl pj
  by_cases hm:wMain∈nms
  ·obtain⟨a1,a2,a3,a4⟩:=GZ (m:=1+dn ns 0 6) (by omega)
   refine⟨xN (1+dn ns 0 6),some (.own (.lst ((xN (1+dn ns 0 6)).map tD))),λ_ _ _ _ _ _ _=>gT (hin.trans (by rw[decide_eq_true hm])) (aM ?_),a1,a2,nodup_cons.mpr ⟨a4,a3⟩,.inr rfl⟩
   unfold xN;rw[map_map];refine bR (List.range (1+dn ns 0 6)) natD _ (eN rfl (by omega)) (by rw[length_range];exact le_trans (show 1+dn ns 0 6<=10 by omega) (by decide)) λk hk=>?_
   have hk:=mem_range.mp hk;refine⟨_,rfl,.sh (tD (replicate (k+1) 120)),?_,rfl⟩;show(if(Str.ofString "xxxxxx").length<=lim then okD (.str (Txt.slice (Str.ofString "xxxxxx") none (some ((k+1:Nat):Int)))) else none)=_;rw[if_pos (by decide +kernel),GY (by omega)]
  ·exact⟨nms,some (.sh (lsD nms)),λ_ _ _ _ _ _ _=>b6 (hin.trans (by rw[decide_eq_false hm])) rfl,nl,nok,nodup_cons.mpr ⟨hm,nnd⟩,.inl rfl⟩
 have l1:1<=fin.length:=by omega
 have l6:fin.length<=6:=by omega
 rw[<-fl] at es2 en;have h13:=gX (ns:=ns) (k:=13) (m:=3) (by decide) (by decide)
 obtain⟨often,ho,eo⟩:∃often:Nat,often<=2/\eBin dMul (eC (.int 2)) (au (f1 dInt) [(eBin dEq (au ax [(eVar 0),(eC (.int 13)),(eC (.int 3))]) (eC (.int 0)))]) (ρL ns fin.length s2 none none none none none none none)=okI (often:Nat):=by
  have hq:eBin dEq (au ax [(eVar 0),(eC (.int 13)),(eC (.int 3))]) (eC (.int 0)) (ρL ns fin.length s2 none none none none none none none)=okB (decide (dn ns 13 3=0)):=ab (dC rfl rfl rfl h13) rfl (JS _ 0);cases hd:decide (dn ns 13 3=0) with
  |true=>rw[hd] at hq;exact⟨2,by decide,ab rfl (cI hq rfl) (BS (a:=2) (b:=1) (by decide))⟩
  |false=>rw[hd] at hq;exact⟨0,by decide,ab rfl (cI hq rfl) (BS (a:=2) (b:=0) (by decide))⟩
 obtain⟨ls0,_,_,_,hbl⟩:=ya (ns:=ns) l1 l6 fok fnd;obtain⟨s5,s2',h2',ebl,gbl,lbl⟩:=hbl s2 h2 (some (.sh (natD often)));obtain⟨ρ',e,ls,X,t2,t5,t7,t8,t9,ht2,rfl,I⟩:=mr (bd:=aY 5) (body:=u4) natD (λk ρ=>∃(ls:List Ln)(X:List Rw8)(t2 t5 t7 t8 t9:Option S),(t2=some (.sh (lsD fin))\/t2=some (.own (.lst (fin.map tD))))/\ρ=ρL ns fin.length t2 (some (.sh (natD often))) (some (.own (.lst (ls.map (Ln.t (wMain::fin)))))) t5 (some (.own (.lst (X.map rwD)))) t7 t8 t9/\LawI ns fin k ls X) (fin.length+1)
  (ρ:=ρL ns fin.length s2' (some (.sh (natD often))) (some (.own (.lst (ls0.map (Ln.t (wMain::fin)))))) s5 (some (.own (.lst []))) none none none) ⟨ls0,[],s2',s5,none,none,none,h2',rfl,⟨rfl,rfl,(λ_ h=>nomatch h),lbl,gbl⟩⟩ (by
  rintro k ρ hk ⟨ls,X,t2,t5,t7,t8,t9,ht2,rfl,I⟩
  obtain⟨ls',X',s7',s8',s9',e,I'⟩:=C2 l1 l6 fok fnd ho hk I (s7:=t7) (s8:=t8) (s9:=t9) ht2;exact⟨_,_,rfl,e,ls',X',_,_,s7',s8',s9',.inl rfl,rfl,I'⟩)
 have wh:rM ⟨bh ns fin fin.length,X.map (·.2.2),[]⟩ X:=by
  refine⟨?_,?_,rfl,?_,I.re,λx hx=>(I.ok x hx).2⟩
  ·show wMain::(bh ns fin fin.length).map (·.1)=_;rw[jQ (le_refl _),take_length,I.nm];exact(wR (wMain::fin)).symm
  ·show 0::(bh ns fin fin.length).map (·.2)=_;rw[I.rk,List.range_succ_eq_map,map_cons,map_map];unfold bh;rw[map_map];rfl
  ·show(bh ns fin fin.length).length<=6;unfold bh;rw[length_map,length_range];exact l6
 have er:=Dd I.go wh;have same:fC [.tup [.tup [],.tup (X.map rwD)],.tup [.tup [],.tup (X.map rwD)]]=okB true:=by
  refine zF (n:=6) (.tup 5 _ (λd hd=>?_) (by show 2<=lim;decide)) (by decide)
  rcases mem_cons.mp hd with rfl|hd
  ·exact .tup 4 _ (λ_ h=>nomatch h) (by show 0<=lim;decide)
  ·rw[mem_singleton.mp hd];refine .tup 4 _ (λd hd=>?_) (by rw[length_map];exact le_trans wh.len (by decide))
   obtain⟨x,hx,rfl⟩:=mem_map.mp hd;exact Br x (I.ok x hx).2
 refine bq rfl (a8 (aM (s:=.sh (natD fin.length)) (ab rfl (dC rfl rfl rfl h0) ((fE 1 _).trans (by rw[fl])))) (a8 (aM (dC rfl rfl rfl en)) (aN (a8 (es2 none none none none none none none) (a8 (aM eo) (a8 (aM rfl) (a8 ebl (a8 (aM rfl) (a8 (nI (eN (ab rfl rfl (fE fin.length 1)) (by omega)) e) (aN (aN (bX ?_))))))))))))
 exact Eu (gZ (F:=fC) (cI (cI rfl rfl) er) (oB (s1:=.sh (.tup [])) (s2:=.sh (.tup (X.map rwD))) rfl (cI rfl rfl)) same) rfl
end Bell
set_option maxHeartbeats 8000000
namespace Bell
open PySem PySem.Spec PyProof.Rows L2 L3
def top(i:Nat):Ve:=PySem.Challenge.pw_bellnest_k08_stretches.main.body.getD i (.Pass ⟨0,0,0,0⟩)
abbrev fj:Ve:=top 31
def xg:List Str:=["_law_script","_law_k","_law_many","_law_cell"]
def df:List Str:=["_law_script","_law_k","_law_many"]
abbrev dU:Ve:=top 33
def vp:List Str:=["_law_script","_law_base","_law_many","_law_letters","_law_word","_law_style","_law_names_here","_law_size","_law_at","_law_k","_law_signs"]
def fQ:List Str:=["_law_script","_law_base","_law_many"]
abbrev fg:Ve:=top 34
def xc:List Str:=["_law_script","_law_at","_law_names_here","_law_some","_law_word","_law_k"]
def gK:List Str:=["_law_script","_law_at","_law_names_here"]
abbrev gB:Ve:=top 35
def zZ:List Str:=["_law_script","_law_base","_law_names_here","_law_often","_law_lines","_law_places","_law_stack","_law_k","_law_ends","_law_at","_law_way","_law_told","_law_number","_law_word","_law_one"]
def iH:List Str:=["_law_script","_law_base","_law_names_here","_law_often"]
abbrev fh:Ve:=top 32
def xf:List Str:=["_law_found","_law_due","_law_one","_law_other"]
def gL:List Str:=["_law_found","_law_due"]
abbrev fk:Ve:=eU (top 28) 0
def xh:List Str:=["self"]
def gM:List Str:=["self"]
abbrev bT:Ve:=eU (top 28) 9
def mW:List Str:=["self"]
def bU:List Str:=["self"]
abbrev bD:Ve:=eU (top 28) 8
def lz:List Str:=["self","bell"]
def aT:List Str:=["self"]
abbrev bP:Ve:=eU (top 28) 10
def mh:List Str:=["self"]
def cw:List Str:=["self"]
abbrev cU:Ve:=eU (top 28) 11
def qr:List Str:=["self","ranks","rows","name","rank","row","bell"]
def dw:List Str:=["self"]
abbrev dY:Ve:=top 11
def vv:List Str:=["text","signs","sign"]
def eg:List Str:=["text","signs"]
abbrev gC:Ve:=top 12
def A0:List Str:=["text"]
def iI:List Str:=["text"]
abbrev bC:Ve:=eU (top 28) 3
def ly:List Str:=["self","words"]
def cf:List Str:=["self","words"]
abbrev dX:Ve:=top 25
def vt:List Str:=["form","words","values","kind"]
def fS:List Str:=["form","words","values"]
abbrev mO:Ve:=top 26
def G3:List Str:=["boxes","deed","kind","size"]
def oU:List Str:=["boxes","deed"]
abbrev fm:Ve:=top 24
def xi:List Str:=["form","words","part","word"]
def gN:List Str:=["form","words"]
abbrev dm:Ve:=top 13
def tf:List Str:=["text","figures"]
def eS:List Str:=["text"]
abbrev dS:Ve:=top 14
def vo:List Str:=["text","number"]
def fP:List Str:=["text"]
abbrev fe:Ve:=top 22
def xb:List Str:=["names","name"]
def fu:List Str:=["names","name"]
abbrev dR:Ve:=top 23
def vn:List Str:=["form","words","names","values","part","word"]
def fO:List Str:=["form","words","names"]
abbrev dW:Ve:=top 27
def vq:List Str:=["boxes","words","names","form","values","deed","box"]
def fR:List Str:=["boxes","words"]
abbrev bB:Ve:=eU (top 28) 7
def lx:List Str:=["self","words","deed","shut","word"]
def cc:List Str:=["self","words"]
abbrev bO:Ve:=eU (top 28) 6
def mf:List Str:=["self","words"]
def cu:List Str:=["self","words"]
abbrev bN:Ve:=eU (top 28) 4
def me:List Str:=["self","words","names","begun"]
def cq:List Str:=["self","words"]
abbrev bA:Ve:=eU (top 28) 5
def lu:List Str:=["self","words","numbers","word","bell"]
def cb:List Str:=["self","words"]
abbrev cT:Ve:=eU (top 28) 1
def qp:List Str:=["self","line","words"]
def dv:List Str:=["self","line"]
abbrev mN:Ve:=top 29
def G2:List Str:=["lines","reader","place","line"]
def oT:List Str:=["lines"]
abbrev oI:Ve:=top 36
def HL:List Str:=["_law_script","_law_bells","_law_names_here","_law_often","_law_lines","_law_k","_law_rows","_law_made","_law_name","_law_rank"]
def yw:List Str:=["_law_script"]
structure lL(mg:Str->Option Q7):Prop where
 all:mg "all" = none
 bool:mg "bool" = none
 enumerate:mg "enumerate" = none
 int:mg "int" = none
 isinstance:mg "isinstance" = none
 len:mg "len" = none
 list:mg "list" = none
 range:mg "range" = none
 set:mg "set" = none
 sorted:mg "sorted" = none
 str:mg "str" = none
 sum:mg "sum" = none
 tuple:mg "tuple" = none
 zip:mg "zip" = none
 g_FIGURES:GV mg "FIGURES" (.str "0123456789")
 g_HIGHEST:GV mg "HIGHEST" (.int (1000000000))
 g_LETTERS:GV mg "LETTERS" (.str "abcdefghijklmnopqrstuvwxyz")
 g_LONGEST:GV mg "LONGEST" (.int (8))
 g_LOWEST:GV mg "LOWEST" (.int (-1000000000))
 g_MOST_BELLS:GV mg "MOST_BELLS" (.int (6))
 g_MOST_DEEDS:GV mg "MOST_DEEDS" (.int (12))
 g_MOST_STRETCHES:GV mg "MOST_STRETCHES" (.int (12))
structure GN(K:Frag)(mg:Str->Option Q7)(cls:Vg->Q9):Prop where
 L_law_draw:d8 K mg "_law_draw" fj df
 L_law_names:d8 K mg "_law_names" dU fQ
 L_law_shut:d8 K mg "_law_shut" fg gK
 L_law_row:d8 K mg "_law_row" gB iH
 L_law_same:d8 K mg "_law_same" fh gL
 L_i_Reader:zi K mg cls "Reader" "Reader" "Reader.__init__" fk gM
 L_Reader_may_end:di K cls "may_end" "Reader.may_end" bT bU ["Reader"]
 L_Reader_row_names:di K cls "row_names" "Reader.row_names" bD aT ["Reader"]
 L_Reader_is_whole:di K cls "is_whole" "Reader.is_whole" bP cw ["Reader"]
 L_Reader_made:di K cls "made" "Reader.made" cU dw ["Reader"]
 L_all_among:d8 K mg "all_among" dY eg
 L_is_name:d8 K mg "is_name" gC iI
 L_Reader_take_bell:di K cls "take_bell" "Reader.take_bell" bC cf ["Reader"]
 L_deed_from:d8 K mg "deed_from" dX fS
 L_fits:d8 K mg "fits" mO oU
 L_has_form:d8 K mg "has_form" fm gN
 L_is_written:d8 K mg "is_written" dm eS
 L_number_of:d8 K mg "number_of" dS fP
 L_place_of:d8 K mg "place_of" fe fu
 L_values_of:d8 K mg "values_of" dR fO
 L_deed_read:d8 K mg "deed_read" dW fR
 L_Reader_take_deed:di K cls "take_deed" "Reader.take_deed" bB cc ["Reader"]
 L_Reader_take_end:di K cls "take_end" "Reader.take_end" bO cu ["Reader"]
 L_Reader_take_row:di K cls "take_row" "Reader.take_row" bN cq ["Reader"]
 L_Reader_take_shut:di K cls "take_shut" "Reader.take_shut" bA cb ["Reader"]
 L_Reader_take:di K cls "take" "Reader.take" cT dv ["Reader"]
 L_read:d8 K mg "read" mN oT
 L_law:d8 K mg "law" oI yw
 fld_bells:∀c∈["Reader"],iC K (cls c)/\b0 K (cls c) "bells"
 fld_boxes:∀c∈["Reader"],iC K (cls c)/\b0 K (cls c) "boxes"
 fld_rows:∀c∈["Reader"],iC K (cls c)/\b0 K (cls c) "rows"
 fld_stretches:∀c∈["Reader"],iC K (cls c)/\b0 K (cls c) "stretches"
 g_FORMS:GK K mg "FORMS" (.tup [(.tup [(.str "put"),(.str "BOX"),(.str "NUMBER")]),(.tup [(.str "put"),(.str "BOX"),(.str "NUMBER"),(.str "NUMBER")]),(.tup [(.str "copy"),(.str "BOX"),(.str "BOX")]),(.tup [(.str "grow"),(.str "BOX"),(.str "NUMBER")]),(.tup [(.str "tick"),(.str "BOX")]),(.tup [(.str "still"),(.str "NUMBER")]),(.tup [(.str "here"),(.str "BOX"),(.str "is"),(.str "BOX"),(.str "plus"),(.str "NUMBER")]),(.tup [(.str "here"),(.str "BOX"),(.str "most"),(.str "BOX"),(.str "plus"),(.str "NUMBER")]),(.tup [(.str "none"),(.str "BOX")]),(.tup [(.str "anew"),(.str "BOX"),(.str "from"),(.str "BOX"),(.str "by"),(.str "BOX")])])
 g_RANKS:GK K mg "RANKS" (.tup [(.str "1"),(.str "2"),(.str "3"),(.str "4"),(.str "5"),(.str "6"),(.str "7"),(.str "8"),(.str "9")])
seal PySem.wpAny
section
variable{P:Va}{w:Vb}{K:Frag}{mg:Str->Option Q7}{base:Vc}{cls:Vg->Q9}
theorem jv:aE xg df (aa fj):=⟨rfl,rfl,rfl,by decide +kernel,rfl,by decide +kernel,by decide +kernel⟩
theorem vf(L:d8 K mg "_law_draw" fj df)(Z:lL mg)  : iD P w K mg base (b8 K cls) 1 "_law_draw" df ax:=
 cK (k:=0) L jv λf c A o s H E hr=>
 (a9 (gG (i:=3) jv.nd rfl af)
 (a9 (aZ (az x6 (bG (cE rfl) rfl Z.len PySem.boot_len (b4 (bE (pv 0)) bx)) af)
 (ag (gG (i:=3) jv.nd rfl (aG jY (bQ (ke rfl) (a6 (pv 0)) (aG jY (a6 (pv 1)) (bG (cE rfl) rfl Z.len PySem.boot_len (b4 (bE (pv 0)) bx)))) af)))
 aB)
 (ag (aV (aG jY (aG jY (aG (av rfl) (aG j5 (a6 (pv 3)) af) (aG j5 (aG j5 (aG (av rfl) (a6 (pv 1)) af) (aG (av rfl) (a6 (pv 1)) af)) af)) af) (a6 (pv 2)))))))
theorem aR:aE vp fQ (aa dU):=⟨rfl,rfl,rfl,by decide +kernel,rfl,by decide +kernel,by decide +kernel⟩
theorem sX(L:d8 K mg "_law_names" dU fQ)(Z:lL mg)(Qy:iD P w K mg base (b8 K cls) 1 "_law_draw" df ax):iD P w K mg base (b8 K cls) 2 "_law_names" fQ fV:=
 cK (k:=1) L aR λf c A o s H E hr=>
 (a9 (gG (i:=3) aR.nd rfl aO)
 (a9 (gG (i:=4) aR.nd rfl (fF (js:=[9]) (vars:=[".0","_law_k"]) (bF 9) (by rfl) (by rfl) rfl (bZ rfl Z.range af) (λ_ _ _ _=>(qm aR.nd rfl)) (λ_ _ _ _=>(bQ (ke rfl) (a6 (pv 3)) (bS Qy (hr.mono (by first|decide|omega)) rfl (padN (a6 (pv 0)) (padB (aG (av rfl) (a6 (pv 1)) (a6 (pv 9))) (padC af ae))))))))
 (a9 (gG (i:=5) aR.nd rfl (bS Qy (hr.mono (by first|decide|omega)) rfl (padN (a6 (pv 0)) (padB (aG (av rfl) (a6 (pv 1)) af) (padC af ae)))))
 (a9 (gG (i:=6) aR.nd rfl (jC rfl (ck (oS (ds:=[(.str "row"),(.str "open"),(.str "here"),(.str "main"),(.str "is"),(.str "box"),(.str "plus"),(.str "by")]) rfl)) gI (gH (a6 (pv 2)))))
 (a9 (aZ (az bK (a6 (pv 5)) af)
 (aq (i:=4) (ag (gF (i:=6) aR.nd rfl (by first|exact Or.inl rfl|exact Or.inr rfl) (js:=[9]) (vars:=[".0","_law_k"]) (bF 9) (by rfl) (by rfl) rfl (bZ rfl Z.range (a6 (pv 2))) (λ_ _ _ _=>(qm aR.nd rfl)) (λ_ _ _ _=>(oj rfl aO (jC rfl (a6 (pv 4)) gI (gH (aG (av rfl) (a6 (pv 9)) af))))))))
 aB)
 (a9 (aZ (az bK (a6 (pv 5)) af)
 (aq (i:=4) (ag (gF (i:=6) aR.nd rfl (by first|exact Or.inl rfl|exact Or.inr rfl) (js:=[9]) (vars:=[".0","_law_k"]) (bF 9) (by rfl) (by rfl) rfl (bZ rfl Z.range (a6 (pv 2))) (λ_ _ _ _=>(qm aR.nd rfl)) (λ_ _ _ _=>(oj rfl aO (jC rfl (a6 (pv 4)) (gH (aG DF af (a6 (pv 9)))) gI))))))
 aB)
 (a9 (aZ (az bK (a6 (pv 5)) af)
 (a9 (gG (i:=6) aR.nd rfl (ck ae))
 (a9 (gG (i:=7) aR.nd rfl (aG (av rfl) af (bS Qy (hr.mono (by first|decide|omega)) rfl (padN (a6 (pv 0)) (padB (aG (av rfl) (a6 (pv 1)) af) (padC af ae))))))
 (a9 (gG (i:=8) aR.nd rfl (bS Qy (hr.mono (by first|decide|omega)) rfl (padN (a6 (pv 0)) (padB (aG (av rfl) (a6 (pv 1)) af) (padN (a6 (pv 7)) ae)))))
 (ag (i0 PassesOwn.never rfl (bZ rfl Z.range (a6 (pv 2))) (qm aR.nd rfl)
 (aq (i:=4) (a9 (gG (i:=10) aR.nd rfl (jC rfl (a6 (pv 4)) gI (gH (a6 (pv 7)))))
 (a9 (uX (i:=10) (pv 10) (a6 (pv 8)) (bQ (ke rfl) (a6 (pv 3)) (aG jY (aG (av rfl) (bS Qy (hr.mono (by first|decide|omega)) rfl (padN (a6 (pv 0)) (padB (aG (av rfl) (a6 (pv 1)) af) (padC af ae)))) (aG j5 af (a6 (pv 9)))) af)))
 (aq (i:=10) (ag (bY (i:=6) (pv 6) (oj rfl aO (a6 (pv 10))))))))))))))
 aB)
 (aq (i:=6) (ag (aV (a6 (pv 6))))))))))))
theorem d9:aE xc gK (aa fg):=⟨rfl,rfl,rfl,by decide +kernel,rfl,by decide +kernel,by decide +kernel⟩
theorem vd(L:d8 K mg "_law_shut" fg gK)(Z:lL mg)(Qy:iD P w K mg base (b8 K cls) 1 "_law_draw" df ax):iD P w K mg base (b8 K cls) 2 "_law_shut" gK j8:=
 cK (k:=1) L d9 λf c A o s H E hr=>
 (a9 (gF (i:=3) d9.nd rfl (by first|exact Or.inl rfl|exact Or.inr rfl) (js:=[5]) (vars:=[".0","_law_k"]) (bF 5) (by rfl) (by rfl) rfl (bZ rfl Z.range (aG (av rfl) af (bS Qy (hr.mono (by first|decide|omega)) rfl (padN (a6 (pv 0)) (padB (aG (av rfl) (a6 (pv 1)) af) (padC af ae)))))) (λ_ _ _ _=>(qm d9.nd rfl)) (λ_ _ _ _=>(bS Qy (hr.mono (by first|decide|omega)) rfl (padN (a6 (pv 0)) (padB (aG (av rfl) (a6 (pv 1)) (a6 (pv 5))) (sP (bG (cE rfl) rfl Z.len PySem.boot_len (b4 (bE (pv 2)) bx)) ae))))))
 (a9 (gG (i:=4) d9.nd rfl af)
 (aq (i:=3) (a9 (i0 PassesOwn.never rfl (eQ rfl (a6 (pv 3))) (qm d9.nd rfl)
 (ag (gG (i:=4) d9.nd rfl (aG sS (a6 (pv 4)) (aG yx af (a6 (pv 5)))))))
 (aq (i:=3) (ag (aV (dr (padB (aG (av rfl) aO (oj rfl aO (fF (js:=[5]) (vars:=[".0","_law_k"]) (bF 5) (by rfl) (by rfl) rfl (eQ rfl (a6 (pv 3))) (λ_ _ _ _=>(qm d9.nd rfl)) (λ_ _ _ _=>(bQ (ke rfl) (a6 (pv 2)) (a6 (pv 5))))))) (padN (a6 (pv 4)) ae))))))))))
theorem aW:aE zZ iH (aa gB):=⟨rfl,rfl,rfl,by decide +kernel,rfl,by decide +kernel,by decide +kernel⟩
theorem x9(L:d8 K mg "_law_row" gB iH)(Z:lL mg)(Qy:iD P w K mg base (b8 K cls) 1 "_law_draw" df ax)(Q2:iD P w K mg base (b8 K cls) 2 "_law_shut" gK j8):iD P w K mg base (b8 K cls) 3 "_law_row" iH iQ:=
 cK (k:=2) L aW λf c A o s H E hr=>
 (a9 (gG (i:=4) aW.nd rfl (ck ae))
 (a9 (gG (i:=5) aW.nd rfl (ck ae))
 (a9 (gG (i:=6) aW.nd rfl (ck ae))
 (a9 (i0 PassesOwn.never rfl (bZ rfl Z.range (bS Qy (hr.mono (by first|decide|omega)) rfl (padN (a6 (pv 0)) (padN (a6 (pv 1)) (padC af ae))))) (qm aW.nd rfl)
 (a9 (gG (i:=9) aW.nd rfl (aG (av rfl) (aG (av rfl) (a6 (pv 1)) af) (aG j5 af (a6 (pv 7)))))
 (a9 (gG (i:=10) aW.nd rfl (bS Qy (hr.mono (by first|decide|omega)) rfl (padN (a6 (pv 0)) (padN (a6 (pv 9)) (padC af ae)))))
 (a9 (aZ (qC.pt (oh (az sR (a6 (pv 10)) (aG (av rfl) af (a6 (pv 3)))) (lY (az sR (bG (cE rfl) rfl Z.len PySem.boot_len (b4 (bE (pv 6)) bx)) af))))
 (a9 (gG (i:=11) aW.nd rfl (bS Q2 (hr.mono (by first|decide|omega)) rfl (padN (a6 (pv 0)) (padB (aG (av rfl) (a6 (pv 9)) af) (padN (a6 (pv 2)) ae)))))
 (a9 (bY (i:=4) (pv 4) (bQ (ke rfl) (a6 (pv 11)) af))
 (ag (bY (i:=6) (pv 6) (bQ (ke rfl) (a6 (pv 11)) af)))))
 aB)
 (a9 (aZ (qC.pt (oh (az bK (a6 (pv 10)) af) (lY (az x6 (bG (cE rfl) rfl Z.len PySem.boot_len (b4 (bE (pv 6)) bx)) af))))
 (a9 (Do (i:=6) (pv 6))
 (ag (bY (i:=4) (pv 4) aO)))
 aB)
 (ag (aZ (qC.pt (oh (az (mV rfl) (a6 (pv 10)) (dr (padC af (padC af ae))) (by with_unfolding_all rfl)) (lY (az sR (bG (cE rfl) rfl Z.len PySem.boot_len (b4 (bE (pv 5)) bx)) af))))
 (a9 (gG (i:=12) aW.nd rfl (aG (av rfl) af (bS Qy (hr.mono (by first|decide|omega)) rfl (padN (a6 (pv 0)) (padB (aG (av rfl) (a6 (pv 9)) af) (padC af ae))))))
 (a9 (bY (i:=4) (pv 4) (aG (av rfl) aO (jd zc rfl Z.str L3.xV (padN (a6 (pv 12)) ae))))
 (a9 (gG (i:=13) aW.nd rfl af)
 (a9 (zO (i:=6) (jy:=14) (m:=13) (by decide) (by decide) aW.nd rfl rfl PassesOwn.never rfl (eQ rfl (a6 (pv 6))) (aG sS (a6 (pv 13)) (a6 (pv 14))))
 (ag (bY (i:=5) (pv 5) (dr (FI (dr (padC aO (padN (a6 (pv 12)) ae))) (padN (a6 (pv 13)) ae)))))))))
 aB)))))))
 (aq (i:=6) (aq (i:=4) (a9 (gG (i:=4) aW.nd rfl (aG (av rfl) (aG (av rfl) (a6 (pv 4)) (fF (js:=[14]) (vars:=[".0","_law_one"]) (bF 14) (by rfl) (by rfl) rfl (eQ rfl (a6 (pv 6))) (λ_ _ _ _=>(qm aW.nd rfl)) (λ_ _ _ _=>aO))) (ck (padC aO ae))))
 (a9 (bY (i:=5) (pv 5) (dr (FI (dr (padC aO (padC af ae))) (padC af ae))))
 (a9 (gG (i:=8) aW.nd rfl (bS Qy (hr.mono (by first|decide|omega)) rfl (padN (a6 (pv 0)) (padB (aG (av rfl) (a6 (pv 1)) af) (padC af ae)))))
 (a9 (aZ (az sR (a6 (pv 8)) af)
 (aq (i:=4) (a9 (gG (i:=4) aW.nd rfl (aG (av rfl) (a6 (pv 4)) (fF (js:=[7]) (vars:=[".0","_law_k"]) (bF 7) (by rfl) (by rfl) rfl (bZ rfl Z.range (aG (av rfl) (a6 (pv 8)) af)) (λ_ _ _ _=>(qm aW.nd rfl)) (λ_ _ _ _=>(aG (av rfl) aO (bQ (ke rfl) (a6 (pv 2)) (aG jY (a6 (pv 8)) (bG (cE rfl) rfl Z.len PySem.boot_len (b4 (bE (pv 2)) bx)))))))))
 (aq (i:=4) (ag (gG (i:=4) aW.nd rfl (aG (av rfl) (a6 (pv 4)) (fF (js:=[7]) (vars:=[".0","_law_k"]) (bF 7) (by rfl) (by rfl) rfl (bZ rfl Z.range (aG (av rfl) (a6 (pv 8)) af)) (λ_ _ _ _=>(qm aW.nd rfl)) (λ_ _ _ _=>aO))))))))
 aB)
 (aq (i:=5) (aq (i:=4) (ag (aV (dr (padN (a6 (pv 4)) (sP (jd (iT rfl) rfl Z.tuple L3.eV (padN (a6 (pv 5)) ae)) ae)))))))))))))))))
theorem nB:aE xf gL (aa fh):=⟨rfl,rfl,rfl,by decide +kernel,rfl,by decide +kernel,by decide +kernel⟩
theorem ve(L:d8 K mg "_law_same" fh gL)(Z:lL mg)  : iD P w K mg base (b8 K cls) 13 "_law_same" gL fC:=
 xG (k:=1) L nB (λf G j hj hG cdv A outer s H E hr=>
 (a9 (aZ (qC.pt (eO (dG (fo rfl (mZ _) rfl Z.isinstance rfl Z.tuple L3.eV (a6 (pv 1)))) (gz (dG (fo rfl (pe _) rfl Z.isinstance rfl Z.list L3.ou (a6 (pv 1)))))))
 (a9 (aZ (qC.pt (eO (az lg (fo rfl (mZ _) rfl Z.isinstance rfl Z.tuple L3.eV (a6 (pv 0))) (fo rfl (mZ _) rfl Z.isinstance rfl Z.tuple L3.eV (a6 (pv 1)))) (gz (az lg (fo rfl (pe _) rfl Z.isinstance rfl Z.list L3.ou (a6 (pv 0))) (fo rfl (pe _) rfl Z.isinstance rfl Z.list L3.ou (a6 (pv 1)))))))
 (ag (aV gJ))
 aB)
 (ag (aV (iw (fq bK (bG (cE rfl) rfl Z.len PySem.boot_len (b4 (bE (pv 0)) bx)) (bG (cE rfl) rfl Z.len PySem.boot_len (b4 (bE (pv 1)) bx))) (j4 (sO (xS rfl rfl) rfl Z.all L3.xW (cp (fF (js:=[2,3]) (vars:=[".0","_law_one","_law_other"]) (pN [2,3]) (by rfl) (by rfl) rfl (Dt rfl rfl Z.zip (a6 (pv 0)) (a6 (pv 1))) (λ_ _ _ _=>(m8 rfl rfl nB.nd rfl rfl (by first|exact Or.inl rfl|exact Or.inr rfl) (by first|exact Or.inl rfl|exact Or.inr rfl))) (λ_ _ _ _=>(bS hG hr rfl (padN (a6 (pv 2)) (padN (a6 (pv 3)) ae))))) ae)))))))
 aB)
 (a9 (aZ (qC.pt (eO (dG (fo rfl (mj _) rfl Z.isinstance rfl Z.bool L3.ow (a6 (pv 1)))) (gz (dG (fo rfl (mj _) rfl Z.isinstance rfl Z.bool L3.ow (a6 (pv 0)))))))
 (ag (aV (iw (fo rfl (mj _) rfl Z.isinstance rfl Z.bool L3.ow (a6 (pv 1))) (iw (fo rfl (mj _) rfl Z.isinstance rfl Z.bool L3.ow (a6 (pv 0))) (j4 (fq bK (a6 (pv 0)) (a6 (pv 1))))))))
 aB)
 (a9 (aZ (dG (fo rfl (yH _) rfl Z.isinstance rfl Z.int L3.pK (a6 (pv 1))))
 (ag (aV (iw (fo rfl (yH _) rfl Z.isinstance rfl Z.int L3.pK (a6 (pv 0))) (j4 (fq bK (a6 (pv 0)) (a6 (pv 1)))))))
 aB)
 (a9 (aZ (yn (a6 (pv 1)))
 (ag (aV (FG (a6 (pv 0)))))
 aB)
 (ag (aV (iw (fo rfl (DT _) rfl Z.isinstance rfl Z.str L3.xV (a6 (pv 0))) (j4 (fq bK (a6 (pv 0)) (a6 (pv 1)))))))))))) 12
theorem uK:aE xh gM (aa fk):=⟨rfl,rfl,rfl,by decide +kernel,rfl,by decide +kernel,by decide +kernel⟩
theorem vg(L:zi K mg cls "Reader" "Reader" "Reader.__init__" fk gM)(Z:lL mg)(Qo:∀c∈["Reader"],iC K (cls c)/\b0 K (cls c) "bells")(Qp:∀c∈["Reader"],iC K (cls c)/\b0 K (cls c) "boxes")(Qq:∀c∈["Reader"],iC K (cls c)/\b0 K (cls c) "rows")(Qr:∀c∈["Reader"],iC K (cls c)/\b0 K (cls c) "stretches"):zj P w K mg base (b8 K cls) 1 "Reader" "Reader" gM ["boxes","bells","rows","stretches"]:=
 xD (k:=0) L uK rfl (by decide) (by decide) (by decide) λf c A o s H E hr=>
 (lX (Qp _ (.head _)).1 (Qp _ (.head _)).2 (pv 0)
 (lX (Qo _ (.head _)).1 (Qo _ (.head _)).2 (pv 0)
 (lX (Qq _ (.head _)).1 (Qq _ (.head _)).2 (pv 0)
 (lX (Qr _ (.head _)).1 (Qr _ (.head _)).2 (pv 0)
 Dh))))
theorem lS:aE mW bU (aa bT):=⟨rfl,rfl,rfl,by decide +kernel,rfl,by decide +kernel,by decide +kernel⟩
theorem ma(L:di K cls "may_end" "Reader.may_end" bT bU ["Reader"])(Z:lL mg)(Qq:∀c∈["Reader"],iC K (cls c)/\b0 K (cls c) "rows")(Qr:∀c∈["Reader"],iC K (cls c)/\b0 K (cls c) "stretches"):gw P w K mg base (b8 K cls) 1 "may_end" bU bV ["Reader"]:=
 ka (k:=0) L lS λf c A o s H E hr=>
 (ag (aV (HA (fq (iL rfl (lD hr)) (dc (cs:=["Reader"]) rfl Qq (a6 (pv 0))) (ck ae)) (j4 (iw (fq (qW rfl (lD hr)) (bQ (ke rfl) (dc (cs:=["Reader"]) rfl Qq (a6 (pv 0))) BF) (ck ae)) (j4 (fq (iL rfl (lD hr)) (dc (cs:=["Reader"]) rfl Qr (a6 (pv 0))) (ck ae))))))))
theorem gu:aE lz aT (aa bD):=⟨rfl,rfl,rfl,by decide +kernel,rfl,by decide +kernel,by decide +kernel⟩
theorem ky(L:di K cls "row_names" "Reader.row_names" bD aT ["Reader"])(Z:lL mg)(Qo:∀c∈["Reader"],iC K (cls c)/\b0 K (cls c) "bells"):gw P w K mg base (b8 K cls) 1 "row_names" aT aU ["Reader"]:=
 ka (k:=0) L gu λf c A o s H E hr=>
 (ag (aV (aG (av rfl) (ck (padC aO ae)) (fF (js:=[1]) (vars:=[".0","bell"]) (bF 1) (by rfl) (by rfl) rfl (eQ rfl (dc (cs:=["Reader"]) rfl Qo (a6 (pv 0)))) (λ_ _ _ _=>(qm gu.nd rfl)) (λ_ _ _ _=>(bQ (ke rfl) (a6 (pv 1)) af))))))
theorem kT:aE mh cw (aa bP):=⟨rfl,rfl,rfl,by decide +kernel,rfl,by decide +kernel,by decide +kernel⟩
theorem lq(L:di K cls "is_whole" "Reader.is_whole" bP cw ["Reader"])(Z:lL mg)(Qq:∀c∈["Reader"],iC K (cls c)/\b0 K (cls c) "rows")(Qc:gw P w K mg base (b8 K cls) 1 "may_end" bU bV ["Reader"])(Qd:gw P w K mg base (b8 K cls) 1 "row_names" aT aU ["Reader"]):gw P w K mg base (b8 K cls) 2 "is_whole" cw cz ["Reader"]:=
 ka (k:=1) L kT λf c A o s H E hr=>
 (ag (aV (iw (fq bK (bG (cE rfl) rfl Z.len PySem.boot_len (b4 (PD.look (dc (cs:=["Reader"]) rfl Qq (a6 (pv 0)))) bx)) (bG (cE rfl) rfl Z.len PySem.boot_len (b4 (PD.look (eR (tb:=aL) (eJ Qd (hr.mono (by decide)) gy) (a6 (pv 0)))) bx))) (j4 (eR (tb:=dJ) (eJ Qc (hr.mono (by decide)) gy) (a6 (pv 0)))))))
theorem da:aE qr dw (aa cU):=⟨rfl,rfl,rfl,by decide +kernel,rfl,by decide +kernel,by decide +kernel⟩
theorem p0(L:di K cls "made" "Reader.made" cU dw ["Reader"])(Z:lL mg)(Qo:∀c∈["Reader"],iC K (cls c)/\b0 K (cls c) "bells")(Qp:∀c∈["Reader"],iC K (cls c)/\b0 K (cls c) "boxes")(Qq:∀c∈["Reader"],iC K (cls c)/\b0 K (cls c) "rows")(Qd:gw P w K mg base (b8 K cls) 1 "row_names" aT aU ["Reader"]):gw P w K mg base (b8 K cls) 2 "made" dw dA ["Reader"]:=
 ka (k:=1) L da λf c A o s H E hr=>
 (a9 (gG (i:=1) da.nd rfl (aG (av rfl) (ck (padC af ae)) (fF (js:=[6]) (vars:=[".0","bell"]) (bF 6) (by rfl) (by rfl) rfl (eQ rfl (dc (cs:=["Reader"]) rfl Qo (a6 (pv 0)))) (λ_ _ _ _=>(qm da.nd rfl)) (λ_ _ _ _=>(bQ (ke rfl) (a6 (pv 6)) af)))))
 (aq (i:=1) (a9 (gF (i:=2) da.nd rfl (by first|exact Or.inl rfl|exact Or.inr rfl) (js:=[3,4,5]) (vars:=[".0","name","rank","row"]) (pN [3,4,5]) (by rfl) (by rfl) rfl (Bu rfl rfl Z.zip (eR (tb:=aL) (eJ Qd (hr.mono (by decide)) gy) (a6 (pv 0))) (a6 (pv 1)) (dc (cs:=["Reader"]) rfl Qq (a6 (pv 0)))) (λ_ _ _ _=>(zV rfl rfl da.nd rfl rfl rfl (by first|exact Or.inl rfl|exact Or.inr rfl) (by first|exact Or.inl rfl|exact Or.inr rfl) (by first|exact Or.inl rfl|exact Or.inr rfl))) (λ_ _ _ _=>(dr (padN (a6 (pv 3)) (padN (a6 (pv 4)) (sP (jd (iT rfl) rfl Z.tuple L3.eV (padN (a6 (pv 5)) ae)) ae))))))
 (aq (i:=2) (ag (aV (dr (sP (jd (iT rfl) rfl Z.tuple L3.eV (cp (dc (cs:=["Reader"]) rfl Qp (a6 (pv 0))) ae)) (sP (jd (iT rfl) rfl Z.tuple L3.eV (padN (a6 (pv 2)) ae)) ae)))))))))
theorem lR:aE vv eg (aa dY):=⟨rfl,rfl,rfl,by decide +kernel,rfl,by decide +kernel,by decide +kernel⟩
theorem td(L:d8 K mg "all_among" dY eg)(Z:lL mg)  : iD P w K mg base (b8 K cls) 1 "all_among" eg dg:=
 cK (k:=0) L lR λf c A o s H E hr=>
 (ag (aV (sO (xS rfl rfl) rfl Z.all L3.xW (cp (fF (js:=[2]) (vars:=[".0","sign"]) (bF 2) (by rfl) (by rfl) rfl (Du (a6 (pv 0))) (λ_ _ _ _=>(qm lR.nd rfl)) (λ_ _ _ _=>(fq DH (a6 (pv 2)) (a6 (pv 1)) (by with_unfolding_all rfl)))) ae))))
theorem wL:aE A0 iI (aa gC):=⟨rfl,rfl,rfl,by decide +kernel,rfl,by decide +kernel,by decide +kernel⟩
theorem xa(L:d8 K mg "is_name" gC iI)(Z:lL mg)(Qk:iD P w K mg base (b8 K cls) 1 "all_among" eg dg):iD P w K mg base (b8 K cls) 2 "is_name" iI iR:=
 cK (k:=1) L wL λf c A o s H E hr=>
 (ag (aV (iw (v9 mU mU af (bG (cE rfl) rfl Z.len PySem.boot_len (b4 (bE (pv 0)) bx)) (fN rfl Z.g_LONGEST)) (j4 (bS Qk (hr.mono (by first|decide|omega)) rfl (padN (a6 (pv 0)) (padN (fN rfl Z.g_LETTERS) ae)))))))
theorem kr:aE ly cf (aa bC):=⟨rfl,rfl,rfl,by decide +kernel,rfl,by decide +kernel,by decide +kernel⟩
theorem kx(L:di K cls "take_bell" "Reader.take_bell" bC cf ["Reader"])(Z:lL mg)(Qw:iD P w K mg base (b8 K cls) 2 "is_name" iI iR)(Qo:∀c∈["Reader"],iC K (cls c)/\b0 K (cls c) "bells")(Qq:∀c∈["Reader"],iC K (cls c)/\b0 K (cls c) "rows")(Qt:GK K mg "RANKS" (.tup [(.str "1"),(.str "2"),(.str "3"),(.str "4"),(.str "5"),(.str "6"),(.str "7"),(.str "8"),(.str "9")]))(Qd:gw P w K mg base (b8 K cls) 1 "row_names" aT aU ["Reader"]):iq P w K mg base (b8 K cls) 3 "take_bell" cf cN "Reader":=
 fA (k:=2) L kr (by decide) λf c A o s H E hr=>
 (a9 (aZ (fM (i:=0) (λ_ _ h=>nomatch h) (qC.pt (eO (az (qW rfl (lD hr)) (dc (cs:=["Reader"]) rfl Qq (a6 (pv 0))) (ck ae)) (eO (az bK (bG (cE rfl) rfl Z.len PySem.boot_len (b4 (PD.look (dc (cs:=["Reader"]) rfl Qo (a6 (pv 0)))) bx)) (fN rfl Z.g_MOST_BELLS)) (gz (az lg (bG (cE rfl) rfl Z.len PySem.boot_len (b4 (bE (pv 1)) bx)) af))))))
 (ag (cR (j:=0) gJ))
 aB)
 (a9 (aZ (fM (i:=0) (λ_ _ h=>nomatch h) (qC.pt (eO (oi (dG (bS Qw (hr.mono (by first|decide|omega)) rfl (BL (bQ (ke rfl) (a6 (pv 1)) af) ae)))) (eO (az (mV rfl) (bQ (ke rfl) (a6 (pv 1)) af) (eR (tb:=aL) (eJ Qd (hr.mono (by decide)) gy) (a6 (pv 0))) (by with_unfolding_all rfl)) (gz (az (mT rfl) (bQ (ke rfl) (a6 (pv 1)) af) (v8 rfl rfl Qt) (by with_unfolding_all rfl)))))))
 (ag (cR (j:=0) gJ))
 aB)
 (a9 (uZ (cs:=["Reader"]) (i:=0) rfl Qo (λ_ _ h=>nomatch h) (pv 0) (dr (BL (bQ (ke rfl) (a6 (pv 1)) af) (sP (jd zd rfl Z.int L3.pK (BL (bQ (ke rfl) (a6 (pv 1)) af) ae)) ae))))
 (ag (cR (j:=0) gJ)))))
theorem lQ:aE vt fS (aa dX):=⟨rfl,rfl,rfl,by decide +kernel,rfl,by decide +kernel,by decide +kernel⟩
theorem sZ(L:d8 K mg "deed_from" dX fS)(Z:lL mg)  : iD P w K mg base (b8 K cls) 1 "deed_from" fS ik:=
 cK (k:=0) L lQ λf c A o s H E hr=>
 (a9 (aZ (az bK (bQ (ke rfl) (a6 (pv 0)) af) aO)
 (ag jU)
 aB)
 (a9 (gG (i:=3) lQ.nd rfl (jD (az bK (bQ (ke rfl) (a6 (pv 0)) af) aO) (bQ (ke rfl) (a6 (pv 1)) af) (bQ (ke rfl) (a6 (pv 0)) af)))
 (ag (aV (aG (av rfl) (dr (padN (a6 (pv 3)) ae)) (jd (iT rfl) rfl Z.tuple L3.eV (padN (a6 (pv 2)) ae)))))))
theorem yl:aE G3 oU (aa mO):=⟨rfl,rfl,rfl,by decide +kernel,rfl,by decide +kernel,by decide +kernel⟩
theorem DL(L:d8 K mg "fits" mO oU)(Z:lL mg)  : iD P w K mg base (b8 K cls) 1 "fits" oU tJ:=
 cK (k:=0) L yl λf c A o s H E hr=>
 (a9 (gG (i:=2) yl.nd rfl (bQ (ke rfl) (a6 (pv 1)) af))
 (a9 (aZ (az bK (a6 (pv 2)) aO)
 (ag (aV (v9 mU mU af (bQ (ke rfl) (a6 (pv 1)) af) af)))
 aB)
 wU))
theorem nC:aE xi gN (aa fm):=⟨rfl,rfl,rfl,by decide +kernel,rfl,by decide +kernel,by decide +kernel⟩
theorem vh(L:d8 K mg "has_form" fm gN)(Z:lL mg)  : iD P w K mg base (b8 K cls) 1 "has_form" gN gU:=
 cK (k:=0) L nC λf c A o s H E hr=>
 (a9 (aZ (az lg (bG (cE rfl) rfl Z.len PySem.boot_len (b4 (bE (pv 0)) bx)) (bG (cE rfl) rfl Z.len PySem.boot_len (b4 (bE (pv 1)) bx)))
 (ag (aV gJ))
 aB)
 (ag (aV (sO (xS rfl rfl) rfl Z.all L3.xW (cp (zU (js:=[2,3]) (vars:=[".0","part","word"]) (pN [2,3]) (by rfl) (by rfl) rfl (v5 rfl rfl Z.zip (a6 (pv 0)) (a6 (pv 1))) (λ_ _ _ _=>(m8 rfl rfl nC.nd rfl rfl (by first|exact Or.inl rfl|exact Or.inr rfl) (by first|exact Or.inl rfl|exact Or.inr rfl))) (λ_ _ _ _=>(az (mT rfl) (a6 (pv 2)) (dr (padC aO (padC aO ae))) (by with_unfolding_all rfl))) (λ_ _ _ _=>(fq bK (a6 (pv 2)) (a6 (pv 3))))) ae)))))
theorem kC:aE tf eS (aa dm):=⟨rfl,rfl,rfl,by decide +kernel,rfl,by decide +kernel,by decide +kernel⟩
theorem qo(L:d8 K mg "is_written" dm eS)(Z:lL mg)(Qk:iD P w K mg base (b8 K cls) 1 "all_among" eg dg):iD P w K mg base (b8 K cls) 2 "is_written" eS gA:=
 cK (k:=1) L kC λf c A o s H E hr=>
 (a9 (aZ (az bK (a6 (pv 0)) aO)
 (ag (aV gJ))
 aB)
 (a9 (gG (i:=1) kC.nd rfl (jD (dG (zT (a6 (pv 0)) aO)) (qU (a6 (pv 0)) (gH af) gI) (a6 (pv 0))))
 (ag (aV (iw (fq lg (a6 (pv 1)) aO) (iw (fq lg (bQ (ke rfl) (a6 (pv 1)) af) aO) (j4 (bS Qk (hr.mono (by first|decide|omega)) rfl (padN (a6 (pv 1)) (padN (fN rfl Z.g_FIGURES) ae))))))))))
theorem lP:aE vo fP (aa dS):=⟨rfl,rfl,rfl,by decide +kernel,rfl,by decide +kernel,by decide +kernel⟩
theorem sW(L:d8 K mg "number_of" dS fP)(Z:lL mg)(Qx:iD P w K mg base (b8 K cls) 2 "is_written" eS gA):iD P w K mg base (b8 K cls) 3 "number_of" fP eD:=
 cK (k:=2) L lP λf c A o s H E hr=>
 (a9 (aZ (oi (dG (bS Qx (hr.mono (by first|decide|omega)) rfl (padN (a6 (pv 0)) ae))))
 (ag (aV kZ))
 aB)
 (a9 (gG (i:=1) lP.nd rfl (jd zd rfl Z.int L3.pK (padN (a6 (pv 0)) ae)))
 (ag (aV (jD (zL mU mU (fN rfl Z.g_LOWEST) (a6 (pv 1)) (fN rfl Z.g_HIGHEST)) (a6 (pv 1)) kZ)))))
theorem uJ:aE xb fu (aa fe):=⟨rfl,rfl,rfl,by decide +kernel,rfl,by decide +kernel,by decide +kernel⟩
theorem vc(L:d8 K mg "place_of" fe fu)(Z:lL mg)  : iD P w K mg base (b8 K cls) 1 "place_of" fu dP:=
 cK (k:=0) L uJ λf c A o s H E hr=>
 (ag (aV (jD (az (mV rfl) (a6 (pv 1)) (a6 (pv 0)) (by with_unfolding_all rfl)) (BG rfl (a6 (pv 0)) (a6 (pv 1))) kZ)))
theorem iZ:aE vn fO (aa dR):=⟨rfl,rfl,rfl,by decide +kernel,rfl,by decide +kernel,by decide +kernel⟩
theorem sU(L:d8 K mg "values_of" dR fO)(Z:lL mg)(Q3:iD P w K mg base (b8 K cls) 3 "number_of" fP eD)(Q4:iD P w K mg base (b8 K cls) 1 "place_of" fu dP):iD P w K mg base (b8 K cls) 4 "values_of" fO ij:=
 cK (k:=3) L iZ λf c A o s H E hr=>
 (a9 (gG (i:=3) iZ.nd rfl (ck ae))
 (a9 (i0 PassesOwn.never rfl (v5 rfl rfl Z.zip (a6 (pv 0)) (a6 (pv 1))) (m8 rfl rfl iZ.nd rfl rfl (by first|exact Or.inl rfl|exact Or.inr rfl) (by first|exact Or.inl rfl|exact Or.inr rfl))
 (ag (aZ (az bK (a6 (pv 4)) aO)
 (ag (bY (i:=3) (pv 3) (bS Q4 (hr.mono (by first|decide|omega)) rfl (padN (a6 (pv 2)) (padN (a6 (pv 5)) ae)))))
 (ag (aZ (az bK (a6 (pv 4)) aO)
 (ag (bY (i:=3) (pv 3) (bS Q3 (hr.mono (by first|decide|omega)) rfl (padN (a6 (pv 5)) ae))))
 aB)))))
 (aq (i:=3) (ag (aV (a6 (pv 3)))))))
theorem dk:aE vq fR (aa dW):=⟨rfl,rfl,rfl,by decide +kernel,rfl,by decide +kernel,by decide +kernel⟩
theorem sY(L:d8 K mg "deed_read" dW fR)(Z:lL mg)(Ql:iD P w K mg base (b8 K cls) 1 "deed_from" fS ik)(Qn:iD P w K mg base (b8 K cls) 1 "fits" oU tJ)(Qu:iD P w K mg base (b8 K cls) 1 "has_form" gN gU)(Q6:iD P w K mg base (b8 K cls) 4 "values_of" fO ij)(Qs:GK K mg "FORMS" (.tup [(.tup [(.str "put"),(.str "BOX"),(.str "NUMBER")]),(.tup [(.str "put"),(.str "BOX"),(.str "NUMBER"),(.str "NUMBER")]),(.tup [(.str "copy"),(.str "BOX"),(.str "BOX")]),(.tup [(.str "grow"),(.str "BOX"),(.str "NUMBER")]),(.tup [(.str "tick"),(.str "BOX")]),(.tup [(.str "still"),(.str "NUMBER")]),(.tup [(.str "here"),(.str "BOX"),(.str "is"),(.str "BOX"),(.str "plus"),(.str "NUMBER")]),(.tup [(.str "here"),(.str "BOX"),(.str "most"),(.str "BOX"),(.str "plus"),(.str "NUMBER")]),(.tup [(.str "none"),(.str "BOX")]),(.tup [(.str "anew"),(.str "BOX"),(.str "from"),(.str "BOX"),(.str "by"),(.str "BOX")])])):iD P w K mg base (b8 K cls) 5 "deed_read" fR fW:=
 cK (k:=4) L dk λf c A o s H E hr=>
 (a9 (gF (i:=2) dk.nd rfl (by first|exact Or.inl rfl|exact Or.inr rfl) (js:=[6]) (vars:=[".0","box"]) (bF 6) (by rfl) (by rfl) rfl (eQ rfl (a6 (pv 0))) (λ_ _ _ _=>(qm dk.nd rfl)) (λ_ _ _ _=>(bQ (ke rfl) (a6 (pv 6)) af)))
 (a9 (i0 PassesOwn.never rfl (eQ rfl (v8 rfl rfl Qs)) (qm dk.nd rfl)
 (ag (aZ (dG (bS Qu (hr.mono (by first|decide|omega)) rfl (padN (a6 (pv 3)) (padN (a6 (pv 1)) ae))))
 (aq (i:=2) (a9 (gG (i:=4) dk.nd rfl (bS Q6 (hr.mono (by first|decide|omega)) rfl (padN (a6 (pv 3)) (padN (a6 (pv 1)) (padN (a6 (pv 2)) ae)))))
 (aq (i:=4) (a9 (gG (i:=5) dk.nd rfl (bS Ql (hr.mono (by first|decide|omega)) rfl (padN (a6 (pv 3)) (padN (a6 (pv 1)) (padN (a6 (pv 4)) ae)))))
 (aq (i:=4) (ag (aV (jD (qC.pt (oh (az (mT rfl) kZ (a6 (pv 4)) (by with_unfolding_all rfl)) (lY (dG (bS Qn (hr.mono (by first|decide|omega)) rfl (padN (a6 (pv 0)) (padN (a6 (pv 5)) ae))))))) (a6 (pv 5)) kZ))))))))
 aB)))
 (ag (aV kZ))))
theorem cG:aE lx cc (aa bB):=⟨rfl,rfl,rfl,by decide +kernel,rfl,by decide +kernel,by decide +kernel⟩
theorem kv(L:di K cls "take_deed" "Reader.take_deed" bB cc ["Reader"])(Z:lL mg)(Qm:iD P w K mg base (b8 K cls) 5 "deed_read" fR fW)(Qp:∀c∈["Reader"],iC K (cls c)/\b0 K (cls c) "boxes")(Qq:∀c∈["Reader"],iC K (cls c)/\b0 K (cls c) "rows")(Qr:∀c∈["Reader"],iC K (cls c)/\b0 K (cls c) "stretches"):iq P w K mg base (b8 K cls) 6 "take_deed" cc cM "Reader":=
 fA (k:=5) L cG (by decide) λf c A o s H E hr=>
 (a9 (gG (i:=2) cG.nd rfl (m7 (i:=0) (λ_ _ h=>nomatch h) (bS Qm (hr.mono (by first|decide|omega)) rfl (cp (dc (cs:=["Reader"]) rfl Qp (a6 (pv 0))) (padN (a6 (pv 1)) ae)))))
 (a9 (aZ (fM (i:=0) (λ_ _ h=>nomatch h) (qC.pt (eO (yn (a6 (pv 2))) (gz (az bK (bG (cE rfl) rfl Z.len PySem.boot_len (b4 (PD.look (bQ (ke rfl) (dc (cs:=["Reader"]) rfl Qq (a6 (pv 0))) BF)) bx)) (fN rfl Z.g_MOST_DEEDS))))))
 (ag (cR (j:=0) gJ))
 aB)
 (a9 (gG (i:=3) cG.nd rfl af)
 (a9 (zN (i:=0) (jy:=4) (m:=3) (λ_ _ h=>nomatch h) (by decide) (by decide) cG.nd rfl rfl PassesOwn.never rfl (eQ rfl (dc (cs:=["Reader"]) rfl Qr (a6 (pv 0)))) (aG sS (a6 (pv 3)) (a6 (pv 4))))
 (a9 (zQ (cs:=["Reader"]) (i:=0) rfl Qq (λ_ _ h=>nomatch h) (pv 0) Dz (dr (padN (a6 (pv 2)) (padN (a6 (pv 3)) ae))))
 (ag (cR (j:=0) gJ)))))))
theorem kS:aE mf cu (aa bO):=⟨rfl,rfl,rfl,by decide +kernel,rfl,by decide +kernel,by decide +kernel⟩
theorem lp(L:di K cls "take_end" "Reader.take_end" bO cu ["Reader"])(Z:lL mg)(Qr:∀c∈["Reader"],iC K (cls c)/\b0 K (cls c) "stretches"):iq P w K mg base (b8 K cls) 1 "take_end" cu cY "Reader":=
 fA (k:=0) L kS (by decide) λf c A o s H E hr=>
 (a9 (aZ (fM (i:=0) (λ_ _ h=>nomatch h) (qC.pt (eO (az lg (bG (cE rfl) rfl Z.len PySem.boot_len (b4 (bE (pv 1)) bx)) af) (gz (az (iL rfl (lD hr)) (dc (cs:=["Reader"]) rfl Qr (a6 (pv 0))) (ck ae))))))
 (ag (cR (j:=0) gJ))
 aB)
 (a9 (Bp (cs:=["Reader"]) (i:=0) rfl Qr (λ_ _ h=>nomatch h) (pv 0))
 (ag (cR (j:=0) gJ))))
theorem dN:aE me cq (aa bN):=⟨rfl,rfl,rfl,by decide +kernel,rfl,by decide +kernel,by decide +kernel⟩
theorem lh(L:di K cls "take_row" "Reader.take_row" bN cq ["Reader"])(Z:lL mg)(Qq:∀c∈["Reader"],iC K (cls c)/\b0 K (cls c) "rows")(Qc:gw P w K mg base (b8 K cls) 1 "may_end" bU bV ["Reader"])(Qd:gw P w K mg base (b8 K cls) 1 "row_names" aT aU ["Reader"]):iq P w K mg base (b8 K cls) 2 "take_row" cq cX "Reader":=
 fA (k:=1) L dN (by decide) λf c A o s H E hr=>
 (a9 (gG (i:=2) dN.nd rfl (m7 (i:=0) (λ_ _ h=>nomatch h) (eR (tb:=aL) (eJ Qd (hr.mono (by decide)) gy) (a6 (pv 0)))))
 (a9 (gG (i:=3) dN.nd rfl (m7 (i:=0) (λ_ _ h=>nomatch h) (bG (cE rfl) rfl Z.len PySem.boot_len (b4 (PD.look (dc (cs:=["Reader"]) rfl Qq (a6 (pv 0)))) bx))))
 (aq (i:=2) (a9 (aZ (fM (i:=0) (λ_ _ h=>nomatch h) (qC.pt (eO (az bK (a6 (pv 3)) (bG (cE rfl) rfl Z.len PySem.boot_len (b4 (bE (pv 2)) bx))) (eO (oi (dG (eR (tb:=dJ) (eJ Qc (hr.mono (by decide)) gy) (a6 (pv 0))))) (gz (az (DG (n:=1) rfl (Gp hr)) (a6 (pv 1)) (ck (padC aO (BL (bQ (ke rfl) (a6 (pv 2)) (a6 (pv 3))) ae)))))))))
 (ag (cR (j:=0) gJ))
 aB)
 (a9 (zP (cs:=["Reader"]) (i:=0) rfl Qq (λ_ _ h=>nomatch h) (pv 0) (ck ae))
 (ag (cR (j:=0) gJ)))))))
theorem cF:aE lu cb (aa bA):=⟨rfl,rfl,rfl,by decide +kernel,rfl,by decide +kernel,by decide +kernel⟩
theorem ku(L:di K cls "take_shut" "Reader.take_shut" bA cb ["Reader"])(Z:lL mg)(Q4:iD P w K mg base (b8 K cls) 1 "place_of" fu dP)(Qr:∀c∈["Reader"],iC K (cls c)/\b0 K (cls c) "stretches")(Qd:gw P w K mg base (b8 K cls) 1 "row_names" aT aU ["Reader"]):iq P w K mg base (b8 K cls) 2 "take_shut" cb cL "Reader":=
 fA (k:=1) L cF (by decide) λf c A o s H E hr=>
 (a9 (gF (i:=2) cF.nd rfl (by first|exact Or.inl rfl|exact Or.inr rfl) (js:=[3]) (vars:=[".0","word"]) (bF 3) (by rfl) (by rfl) rfl (eQ rfl (jC rfl (a6 (pv 1)) (gH af) gI)) (λ_ _ _ _=>(qm cF.nd rfl)) (λ_ _ _ _=>(m7 (i:=0) (λ_ _ h=>nomatch h) (bS Q4 (hr.mono (by first|decide|omega)) rfl (sP (eR (tb:=aL) (eJ Qd (hr.mono (by decide)) gy) (a6 (pv 0))) (padN (a6 (pv 3)) ae))))))
 (aq (i:=2) (a9 (aZ (fM (i:=0) (λ_ _ h=>nomatch h) (qC.pt (eO (az (iL rfl (lD hr)) (a6 (pv 2)) (ck ae)) (eO (az (mV rfl) kZ (a6 (pv 2)) (by with_unfolding_all rfl)) (eO (az (mV rfl) af (a6 (pv 2)) (by with_unfolding_all rfl)) (gz (az bK (bG (cE rfl) rfl Z.len PySem.boot_len (b4 (PD.look (dc (cs:=["Reader"]) rfl Qr (a6 (pv 0)))) bx)) (fN rfl Z.g_MOST_STRETCHES))))))))
 (ag (cR (j:=0) gJ))
 aB)
 (aq (i:=2) (a9 (uZ (cs:=["Reader"]) (i:=0) rfl Qr (λ_ _ h=>nomatch h) (pv 0) (sO (Gz rfl rfl) rfl Z.sum L3.GB (cp (fF (js:=[4]) (vars:=[".0","bell"]) (bF 4) (by rfl) (by rfl) rfl (eQ rfl (sN rfl rfl rfl Z.sorted rfl Z.set (a6 (pv 2)))) (λ_ _ _ _=>(qm cF.nd rfl)) (λ_ _ _ _=>(aG yx af (a6 (pv 4))))) ae)))
 (ag (cR (j:=0) gJ)))))))
theorem jx:aE qp dv (aa cT):=⟨rfl,rfl,rfl,by decide +kernel,rfl,by decide +kernel,by decide +kernel⟩
theorem oZ(L:di K cls "take" "Reader.take" cT dv ["Reader"])(Z:lL mg)(Qq:∀c∈["Reader"],iC K (cls c)/\b0 K (cls c) "rows")(Qf:iq P w K mg base (b8 K cls) 3 "take_bell" cf cN "Reader")(Qg:iq P w K mg base (b8 K cls) 6 "take_deed" cc cM "Reader")(Qh:iq P w K mg base (b8 K cls) 1 "take_end" cu cY "Reader")(Qi:iq P w K mg base (b8 K cls) 2 "take_row" cq cX "Reader")(Qj:iq P w K mg base (b8 K cls) 2 "take_shut" cb cL "Reader"):iq P w K mg base (b8 K cls) 7 "take" dv fH "Reader":=
 fA (k:=6) L jx (by decide) λf c A o s H E hr=>
 (a9 (gG (i:=2) jx.nd rfl (BE (a6 (pv 1)) aO))
 (aq (i:=2) (a9 (aZ (az bK (bQ (ke rfl) (a6 (pv 2)) af) aO)
 (ag jU)
 aB)
 (aq (i:=2) (a9 (aZ (az bK (bQ (ke rfl) (a6 (pv 2)) af) aO)
 (aq (i:=2) (ag (jA (j:=0) (iG (i:=0) Qf (hr.mono (by first|decide|omega)) (pv 0) (padN (a6 (pv 2)) ae)))))
 aB)
 (aq (i:=2) (a9 (aZ (az bK (bQ (ke rfl) (a6 (pv 2)) af) aO)
 (aq (i:=2) (ag (jA (j:=0) (iG (i:=0) Qi (hr.mono (by first|decide|omega)) (pv 0) (padN (a6 (pv 2)) ae)))))
 aB)
 (a9 (aZ (fM (i:=0) (λ_ _ h=>nomatch h) (az (iL rfl (lD hr)) (dc (cs:=["Reader"]) rfl Qq (a6 (pv 0))) (ck ae)))
 (ag (cR (j:=0) gJ))
 aB)
 (aq (i:=2) (a9 (aZ (az bK (bQ (ke rfl) (a6 (pv 2)) af) aO)
 (aq (i:=2) (ag (jA (j:=0) (iG (i:=0) Qj (hr.mono (by first|decide|omega)) (pv 0) (padN (a6 (pv 2)) ae)))))
 aB)
 (aq (i:=2) (a9 (aZ (az bK (bQ (ke rfl) (a6 (pv 2)) af) aO)
 (aq (i:=2) (ag (jA (j:=0) (iG (i:=0) Qh (hr.mono (by first|decide|omega)) (pv 0) (padN (a6 (pv 2)) ae)))))
 aB)
 (aq (i:=2) (ag (jA (j:=0) (iG (i:=0) Qg (hr.mono (by first|decide|omega)) (pv 0) (padN (a6 (pv 2)) ae)))))))))))))))))
theorem sC:aE G2 oT (aa mN):=⟨rfl,rfl,rfl,by decide +kernel,rfl,by decide +kernel,by decide +kernel⟩
theorem DK(L:d8 K mg "read" mN oT)(Z:lL mg)(Qv:zj P w K mg base (b8 K cls) 1 "Reader" "Reader" gM ["boxes","bells","rows","stretches"])(Qa:gw P w K mg base (b8 K cls) 2 "is_whole" cw cz ["Reader"])(Qb:gw P w K mg base (b8 K cls) 2 "made" dw dA ["Reader"])(Qe:iq P w K mg base (b8 K cls) 7 "take" dv fH "Reader"):iD P w K mg base (b8 K cls) 8 "read" oT tH:=
 cK (k:=7) L sC λf c A o s H E hr=>
 (a9 (zM (i:=1) Qv (hr.mono (by decide)) rfl sC.nd rfl (by first|exact Or.inl rfl|exact Or.inr rfl))
 (a9 (i0 PassesOwn.never rfl (Bv rfl rfl Z.enumerate (a6 (pv 0))) (m8 rfl rfl sC.nd rfl rfl (by first|exact Or.inl rfl|exact Or.inr rfl) (by first|exact Or.inl rfl|exact Or.inr rfl))
 (ag (Dp (Dk (Dj (iG (i:=1) Qe (hr.mono (by first|decide|omega)) (pv 1) (padN (a6 (pv 3)) ae))))
 (ag jU)
 aB)))
 (aq (i:=1) (a9 (aZ (fM (i:=1) (λ_ _ h=>nomatch h) (oi (dG (eR (tb:=jh) (eJ Qa (hr.mono (by decide)) gy) (a6 (pv 1))))))
 (ag jU)
 aB)
 (aq (i:=1) (ag (aV (m7 (i:=1) (λ_ _ h=>nomatch h) (eR (tb:=rQ) (eJ Qb (hr.mono (by decide)) gy) (a6 (pv 1)))))))))))
theorem dM:aE HL yw (aa oI):=⟨rfl,rfl,rfl,by decide +kernel,rfl,by decide +kernel,by decide +kernel⟩
theorem FV{f:Q9}{fd:FuncData}(L:wx K "law" "law" oI f fd)(Z:lL mg)(Qy:iD P w K mg base (b8 K cls) 1 "_law_draw" df ax)(Qz:iD P w K mg base (b8 K cls) 2 "_law_names" fQ fV)(Q0:iD P w K mg base (b8 K cls) 3 "_law_row" iH iQ)(Q1:iD P w K mg base (b8 K cls) 13 "_law_same" gL fC)(Q5:iD P w K mg base (b8 K cls) 8 "read" oT tH):eI P w K mg base kA 14 f fd yw (CN (b8 K cls) W0 yQ):=
 E7 (k:=13) L dM λcdv A outer s H E hr=>
 (a9 (gG (i:=1) dM.nd rfl (aG (av rfl) af (bS Qy (hr.mono (by first|decide|omega)) rfl (padN (a6 (pv 0)) (padC af (padC af ae))))))
 (a9 (gG (i:=2) dM.nd rfl (bS Qz (hr.mono (by first|decide|omega)) rfl (padN (a6 (pv 0)) (padC af (padN (a6 (pv 1)) ae)))))
 (aq (i:=2) (a9 (aZ (az (mV rfl) aO (a6 (pv 2)) (by with_unfolding_all rfl))
 (ag (gF (i:=2) dM.nd rfl (by first|exact Or.inl rfl|exact Or.inr rfl) (js:=[5]) (vars:=[".0","_law_k"]) (bF 5) (by rfl) (by rfl) rfl (bZ rfl Z.range (a6 (pv 1))) (λ_ _ _ _=>(qm dM.nd rfl)) (λ_ _ _ _=>(qU aO gI (gH (aG (av rfl) (a6 (pv 5)) af))))))
 aB)
 (a9 (gG (i:=3) dM.nd rfl (aG j5 af (jd GA rfl Z.int L3.pK (cp (fq bK (bS Qy (hr.mono (by first|decide|omega)) rfl (padN (a6 (pv 0)) (padC af (padC af ae)))) af) ae))))
 (a9 (gG (i:=4) dM.nd rfl (ck ae))
 (a9 (i0 PassesOwn.never rfl (bZ rfl Z.range (a6 (pv 1))) (qm dM.nd rfl)
 (aq (i:=2) (ag (bY (i:=4) (pv 4) (aG (av rfl) (aG (av rfl) (aG (av rfl) aO (bQ (ke rfl) (a6 (pv 2)) (a6 (pv 5)))) aO) (jd zc rfl Z.str L3.xV (padB (aG (av rfl) af (bS Qy (hr.mono (by first|decide|omega)) rfl (padN (a6 (pv 0)) (padB (aG (av rfl) af (a6 (pv 5))) (padC af ae))))) ae)))))))
 (a9 (gG (i:=6) dM.nd rfl (ck ae))
 (a9 (i0 PassesOwn.never rfl (bZ rfl Z.range (aG (av rfl) (a6 (pv 1)) af)) (qm dM.nd rfl)
 (aq (i:=2) (a9 (gG (i:=7) dM.nd rfl (bS Q0 (hr.mono (by first|decide|omega)) rfl (padN (a6 (pv 0)) (padB (aG (av rfl) af (aG j5 af (a6 (pv 5)))) (padN (a6 (pv 2)) (padN (a6 (pv 3)) ae))))))
 (aq (i:=2) (a9 (gG (i:=8) dM.nd rfl (bQ (ke rfl) (aG (av rfl) (ck (padC aO ae)) (a6 (pv 2))) (a6 (pv 5))))
 (a9 (gG (i:=9) dM.nd rfl af)
 (a9 (aZ (az x6 (a6 (pv 5)) af)
 (ag (gG (i:=9) dM.nd rfl (aG (av rfl) af (bS Qy (hr.mono (by first|decide|omega)) rfl (padN (a6 (pv 0)) (padB (aG (av rfl) af (a6 (pv 5))) (padC af ae)))))))
 aB)
 (aq (i:=4) (a9 (gG (i:=4) dM.nd rfl (aG (av rfl) (aG (av rfl) (a6 (pv 4)) (ck (padB (aG (av rfl) aO (a6 (pv 8))) ae))) (bQ (ke rfl) (a6 (pv 7)) af)))
 (ag (bY (i:=6) (pv 6) (dr (padN (a6 (pv 8)) (padN (a6 (pv 9)) (BL (bQ (ke rfl) (a6 (pv 7)) af) ae)))))))))))))))
 (aq (i:=6) (aq (i:=4) (ag (aV (FH Q1 (hr.mono (by first|decide|omega)) rfl (b4 (PD.look (bS Q5 (hr.mono (by first|decide|omega)) rfl (sP (jd (Et rfl) rfl Z.list L3.ou (padN (a6 (pv 4)) ae)) ae))) (b4 (PD.look (dr (FI (dr ae) (sP (jd (iT rfl) rfl Z.tuple L3.eV (padN (a6 (pv 6)) ae)) ae)))) bx))))))))))))))))
theorem FW(T:GN K mg cls)(Z:lL mg){f:Q9}{fd:FuncData}(L:wx K "law" "law" oI f fd):eI P w K mg base kA 14 f fd yw (CN (b8 K cls) W0 yQ):=by
 have h_law_draw:=@vf P w K mg base cls T.L_law_draw Z;have h_law_names:=@sX P w K mg base cls T.L_law_names Z h_law_draw;have h_law_shut:=@vd P w K mg base cls T.L_law_shut Z h_law_draw;have h_law_row:=@x9 P w K mg base cls T.L_law_row Z h_law_draw h_law_shut;have h_law_same:=@ve P w K mg base cls T.L_law_same Z;have h_i_Reader:=@vg P w K mg base cls T.L_i_Reader Z T.fld_bells T.fld_boxes T.fld_rows T.fld_stretches;have h_Reader_may_end:=@ma P w K mg base cls T.L_Reader_may_end Z T.fld_rows T.fld_stretches;have h_Reader_row_names:=@ky P w K mg base cls T.L_Reader_row_names Z T.fld_bells;have h_Reader_is_whole:=@lq P w K mg base cls T.L_Reader_is_whole Z T.fld_rows h_Reader_may_end h_Reader_row_names;have h_Reader_made:=@p0 P w K mg base cls T.L_Reader_made Z T.fld_bells T.fld_boxes T.fld_rows h_Reader_row_names;have h_all_among:=@td P w K mg base cls T.L_all_among Z;have h_is_name:=@xa P w K mg base cls T.L_is_name Z h_all_among;have h_Reader_take_bell:=@kx P w K mg base cls T.L_Reader_take_bell Z h_is_name T.fld_bells T.fld_rows T.g_RANKS h_Reader_row_names;have h_deed_from:=@sZ P w K mg base cls T.L_deed_from Z;have h_fits:=@DL P w K mg base cls T.L_fits Z;have h_has_form:=@vh P w K mg base cls T.L_has_form Z;have h_is_written:=@qo P w K mg base cls T.L_is_written Z h_all_among;have h_number_of:=@sW P w K mg base cls T.L_number_of Z h_is_written;have h_place_of:=@vc P w K mg base cls T.L_place_of Z;have h_values_of:=@sU P w K mg base cls T.L_values_of Z h_number_of h_place_of;have h_deed_read:=@sY P w K mg base cls T.L_deed_read Z h_deed_from h_fits h_has_form h_values_of T.g_FORMS;have h_Reader_take_deed:=@kv P w K mg base cls T.L_Reader_take_deed Z h_deed_read T.fld_boxes T.fld_rows T.fld_stretches;have h_Reader_take_end:=@lp P w K mg base cls T.L_Reader_take_end Z T.fld_stretches;have h_Reader_take_row:=@lh P w K mg base cls T.L_Reader_take_row Z T.fld_rows h_Reader_may_end h_Reader_row_names;have h_Reader_take_shut:=@ku P w K mg base cls T.L_Reader_take_shut Z h_place_of T.fld_stretches h_Reader_row_names;have h_Reader_take:=@oZ P w K mg base cls T.L_Reader_take Z T.fld_rows h_Reader_take_bell h_Reader_take_deed h_Reader_take_end h_Reader_take_row h_Reader_take_shut;have h_read:=@DK P w K mg base cls T.L_read Z h_i_Reader h_Reader_is_whole h_Reader_made h_Reader_take;exact FV L Z h_law_draw h_law_names h_law_row h_law_same h_read
end
unseal PySem.wpAny
theorem walk{l:PySem.W.OpenLaw}{q:Va}{loose:List Str}{XP:(Str->Option Q7)->Vc->Prop}{YP:Vb->Vc->Prop}{d:DefRec}{K:Params->Frag}(T:∀ns:List Int,ns.length<=63->yQ [.lst (ns.map D.int)]=some (.ok (.sh (.bl true))))(hn:l.most=some 63)(hdf:d.params.defaults=[])(hdn:d.name = "law")
  (hY:∀(w:Vb)(h:Vc),YP w h->(K w.params).In h) (F:∀(w:Vb)(mg:Str->Option Q7)(h:Vc),(K w.params).In h->h.Ns mainGlobals mg->(∃cls,GN (K w.params) mg cls)/\lL mg):PySem.W.WalkO q loose XP YP l.row.toRowW d [] (λf vs=>PySem.call f vs):=
 BZ (k:=14) (x := "_law_script") (by decide) hn hdf hY λw mg fa h KX G hm=>by
  obtain⟨⟨cls,T1⟩,Z⟩:=F w mg h KX G;obtain⟨f,fd,Fl,hm2,_⟩:=T1.L_law.ex;rw[hdn,hm2] at hm;cases hm;obtain⟨oc,od,kV,doc,pm,an,cdv,ct,osl,e,_⟩:=id Fl.ex;exact⟨fd,λs u=>by rw[e];exact .of_eq rfl,λbase=>Ga (FW (cls:=cls) T1 Z Fl) rfl rfl T⟩
set_option maxHeartbeats 0 in
theorem defs_mk{K:Frag}{h:Vc}{mg:Str->Option Q7}(X:K.In h)(G:h.Ns mainGlobals mg)
  {C0:Q9}
  {g0:Q9} {oc0:Q7} {od0 an0:Option Q9} {sl0:Array (Option Q7)} {kV0 dc0 pm0 cd0 ct0:Q7}
  {g1:Q9} {oc1:Q7} {od1 an1:Option Q9} {sl1:Array (Option Q7)} {kV1 dc1 pm1 cd1 ct1:Q7}
  {g2:Q9} {oc2:Q7} {od2 an2:Option Q9} {sl2:Array (Option Q7)} {kV2 dc2 pm2 cd2 ct2:Q7}
  {g3:Q9} {oc3:Q7} {od3 an3:Option Q9} {sl3:Array (Option Q7)} {kV3 dc3 pm3 cd3 ct3:Q7}
  {g4:Q9} {oc4:Q7} {od4 an4:Option Q9} {sl4:Array (Option Q7)} {kV4 dc4 pm4 cd4 ct4:Q7}
  {g5:Q9} {oc5:Q7} {od5 an5:Option Q9} {sl5:Array (Option Q7)} {kV5 dc5 pm5 cd5 ct5:Q7}
  {g6:Q9} {oc6:Q7} {od6 an6:Option Q9} {sl6:Array (Option Q7)} {kV6 dc6 pm6 cd6 ct6:Q7}
  {g7:Q9} {oc7:Q7} {od7 an7:Option Q9} {sl7:Array (Option Q7)} {kV7 dc7 pm7 cd7 ct7:Q7}
  {g8:Q9} {oc8:Q7} {od8 an8:Option Q9} {sl8:Array (Option Q7)} {kV8 dc8 pm8 cd8 ct8:Q7}
  {g9:Q9} {oc9:Q7} {od9 an9:Option Q9} {sl9:Array (Option Q7)} {kV9 dc9 pm9 cd9 ct9:Q7}
  {g10:Q9} {oc10:Q7} {od10 an10:Option Q9} {sl10:Array (Option Q7)} {kV10 dc10 pm10 cd10 ct10:Q7}
  {g11:Q9} {oc11:Q7} {od11 an11:Option Q9} {sl11:Array (Option Q7)} {kV11 dc11 pm11 cd11 ct11:Q7}
  {g12:Q9} {oc12:Q7} {od12 an12:Option Q9} {sl12:Array (Option Q7)} {kV12 dc12 pm12 cd12 ct12:Q7}
  {g13:Q9} {oc13:Q7} {od13 an13:Option Q9} {sl13:Array (Option Q7)} {kV13 dc13 pm13 cd13 ct13:Q7}
  {g14:Q9} {oc14:Q7} {od14 an14:Option Q9} {sl14:Array (Option Q7)} {kV14 dc14 pm14 cd14 ct14:Q7}
  {g15:Q9} {oc15:Q7} {od15 an15:Option Q9} {sl15:Array (Option Q7)} {kV15 dc15 pm15 cd15 ct15:Q7}
  {g16:Q9} {oc16:Q7} {od16 an16:Option Q9} {sl16:Array (Option Q7)} {kV16 dc16 pm16 cd16 ct16:Q7}
  {g17:Q9} {oc17:Q7} {od17 an17:Option Q9} {sl17:Array (Option Q7)} {kV17 dc17 pm17 cd17 ct17:Q7}
  {g18:Q9} {oc18:Q7} {od18 an18:Option Q9} {sl18:Array (Option Q7)} {kV18 dc18 pm18 cd18 ct18:Q7}
  {g19:Q9} {oc19:Q7} {od19 an19:Option Q9} {sl19:Array (Option Q7)} {kV19 dc19 pm19 cd19 ct19:Q7}
  {g20:Q9} {oc20:Q7} {od20 an20:Option Q9} {sl20:Array (Option Q7)} {kV20 dc20 pm20 cd20 ct20:Q7}
  {g21:Q9} {oc21:Q7} {od21 an21:Option Q9} {sl21:Array (Option Q7)} {kV21 dc21 pm21 cd21 ct21:Q7}
  {g22:Q9} {oc22:Q7} {od22 an22:Option Q9} {sl22:Array (Option Q7)} {kV22 dc22 pm22 cd22 ct22:Q7}
  {g23:Q9} {oc23:Q7} {od23 an23:Option Q9} {sl23:Array (Option Q7)} {kV23 dc23 pm23 cd23 ct23:Q7}
  {g24:Q9} {oc24:Q7} {od24 an24:Option Q9} {sl24:Array (Option Q7)} {kV24 dc24 pm24 cd24 ct24:Q7}
  {g25:Q9} {oc25:Q7} {od25 an25:Option Q9} {sl25:Array (Option Q7)} {kV25 dc25 pm25 cd25 ct25:Q7}
  {g26:Q9} {oc26:Q7} {od26 an26:Option Q9} {sl26:Array (Option Q7)} {kV26 dc26 pm26 cd26 ct26:Q7}
  {g27:Q9} {oc27:Q7} {od27 an27:Option Q9} {sl27:Array (Option Q7)} {kV27 dc27 pm27 cd27 ct27:Q7}
  {uk_FORMS:Q7}
  {uk_RANKS:Q7}
  {tg_FIGURES:Tok}
  {tg_HIGHEST:Tok}
  {tg_LETTERS:Tok}
  {tg_LONGEST:Tok}
  {tg_LOWEST:Tok}
  {tg_MOST_BELLS:Tok}
  {tg_MOST_DEEDS:Tok}
  {tg_MOST_STRETCHES:Tok}
  (ca0:nsIn K mainGlobals "Reader" = some (some (.ref C0)))
  (cp0:plainGet K C0 Str.empty=true)
  (ch0:hasDictIn K C0=true)
  (co0:plainOver K C0=true)
  (cs0:findIn K (.ref C0) "__setattr__" = some (some (.builtin "object.__setattr__")))
  (a0:nsIn K mainGlobals "_law_draw" = some (some (.ref g0)))
  (l0:K.lookup g0=some ⟨oc0,od0,.func (fnOf "_law_draw" "_law_draw" (aI fj) (ao fj) (aa fj) .none kV0 dc0 pm0 an0 cd0 ct0),sl0⟩)
  (c0:codeIn K cd0 "_law_draw" = true)
  (k0:keepIn K (.ref g0)=true)
  (a1:nsIn K mainGlobals "_law_names" = some (some (.ref g1)))
  (l1:K.lookup g1=some ⟨oc1,od1,.func (fnOf "_law_names" "_law_names" (aI dU) (ao dU) (aa dU) .none kV1 dc1 pm1 an1 cd1 ct1),sl1⟩)
  (c1:codeIn K cd1 "_law_names" = true)
  (k1:keepIn K (.ref g1)=true)
  (a2:nsIn K mainGlobals "_law_shut" = some (some (.ref g2)))
  (l2:K.lookup g2=some ⟨oc2,od2,.func (fnOf "_law_shut" "_law_shut" (aI fg) (ao fg) (aa fg) .none kV2 dc2 pm2 an2 cd2 ct2),sl2⟩)
  (c2:codeIn K cd2 "_law_shut" = true)
  (k2:keepIn K (.ref g2)=true)
  (a3:nsIn K mainGlobals "_law_row" = some (some (.ref g3)))
  (l3:K.lookup g3=some ⟨oc3,od3,.func (fnOf "_law_row" "_law_row" (aI gB) (ao gB) (aa gB) .none kV3 dc3 pm3 an3 cd3 ct3),sl3⟩)
  (c3:codeIn K cd3 "_law_row" = true)
  (k3:keepIn K (.ref g3)=true)
  (a4:nsIn K mainGlobals "_law_same" = some (some (.ref g4)))
  (l4:K.lookup g4=some ⟨oc4,od4,.func (fnOf "_law_same" "_law_same" (aI fh) (ao fh) (aa fh) .none kV4 dc4 pm4 an4 cd4 ct4),sl4⟩)
  (c4:codeIn K cd4 "_law_same" = true)
  (k4:keepIn K (.ref g4)=true)
  (f5:findIn K (.ref C0) "__init__" = some (some (.ref g5)))
  (l5:K.lookup g5=some ⟨oc5,od5,.func (fnOf "__init__" "Reader.__init__" (aI fk) (ao fk) (aa fk) .none kV5 dc5 pm5 an5 cd5 ct5),sl5⟩)
  (c5:codeIn K cd5 "Reader.__init__" = true)
  (k5:keepIn K (.ref g5)=true)
  (i5:isFn K (.ref g5)=true)
  (m5:makesIn K C0=true)
  (n5:keepIn K (.ref C0)=true)
  (o5:findCls K (.ref C0) (.type "type") "__init__" = some (.val (.ref g5)))
  (q5:specialIn K (.ref C0) "__getattribute__" = some (some (.builtin "type.__getattribute__")))
  (r5:readsIn K C0 (.type "type")=true)
  (f6_0:findIn K (.ref C0) "may_end" = some (some (.ref g6)))
  (l6:K.lookup g6=some ⟨oc6,od6,.func (fnOf "may_end" "Reader.may_end" (aI bT) (ao bT) (aa bT) .none kV6 dc6 pm6 an6 cd6 ct6),sl6⟩)
  (c6:codeIn K cd6 "Reader.may_end" = true)
  (k6:keepIn K (.ref g6)=true)
  (i6:isFn K (.ref g6)=true)
  (f7_0:findIn K (.ref C0) "row_names" = some (some (.ref g7)))
  (l7:K.lookup g7=some ⟨oc7,od7,.func (fnOf "row_names" "Reader.row_names" (aI bD) (ao bD) (aa bD) .none kV7 dc7 pm7 an7 cd7 ct7),sl7⟩)
  (c7:codeIn K cd7 "Reader.row_names" = true)
  (k7:keepIn K (.ref g7)=true)
  (i7:isFn K (.ref g7)=true)
  (f8_0:findIn K (.ref C0) "is_whole" = some (some (.ref g8)))
  (l8:K.lookup g8=some ⟨oc8,od8,.func (fnOf "is_whole" "Reader.is_whole" (aI bP) (ao bP) (aa bP) .none kV8 dc8 pm8 an8 cd8 ct8),sl8⟩)
  (c8:codeIn K cd8 "Reader.is_whole" = true)
  (k8:keepIn K (.ref g8)=true)
  (i8:isFn K (.ref g8)=true)
  (f9_0:findIn K (.ref C0) "made" = some (some (.ref g9)))
  (l9:K.lookup g9=some ⟨oc9,od9,.func (fnOf "made" "Reader.made" (aI cU) (ao cU) (aa cU) .none kV9 dc9 pm9 an9 cd9 ct9),sl9⟩)
  (c9:codeIn K cd9 "Reader.made" = true)
  (k9:keepIn K (.ref g9)=true)
  (i9:isFn K (.ref g9)=true)
  (a10:nsIn K mainGlobals "all_among" = some (some (.ref g10)))
  (l10:K.lookup g10=some ⟨oc10,od10,.func (fnOf "all_among" "all_among" (aI dY) (ao dY) (aa dY) .none kV10 dc10 pm10 an10 cd10 ct10),sl10⟩)
  (c10:codeIn K cd10 "all_among" = true)
  (k10:keepIn K (.ref g10)=true)
  (a11:nsIn K mainGlobals "is_name" = some (some (.ref g11)))
  (l11:K.lookup g11=some ⟨oc11,od11,.func (fnOf "is_name" "is_name" (aI gC) (ao gC) (aa gC) .none kV11 dc11 pm11 an11 cd11 ct11),sl11⟩)
  (c11:codeIn K cd11 "is_name" = true)
  (k11:keepIn K (.ref g11)=true)
  (f12_0:findIn K (.ref C0) "take_bell" = some (some (.ref g12)))
  (l12:K.lookup g12=some ⟨oc12,od12,.func (fnOf "take_bell" "Reader.take_bell" (aI bC) (ao bC) (aa bC) .none kV12 dc12 pm12 an12 cd12 ct12),sl12⟩)
  (c12:codeIn K cd12 "Reader.take_bell" = true)
  (k12:keepIn K (.ref g12)=true)
  (i12:isFn K (.ref g12)=true)
  (a13:nsIn K mainGlobals "deed_from" = some (some (.ref g13)))
  (l13:K.lookup g13=some ⟨oc13,od13,.func (fnOf "deed_from" "deed_from" (aI dX) (ao dX) (aa dX) .none kV13 dc13 pm13 an13 cd13 ct13),sl13⟩)
  (c13:codeIn K cd13 "deed_from" = true)
  (k13:keepIn K (.ref g13)=true)
  (a14:nsIn K mainGlobals "fits" = some (some (.ref g14)))
  (l14:K.lookup g14=some ⟨oc14,od14,.func (fnOf "fits" "fits" (aI mO) (ao mO) (aa mO) .none kV14 dc14 pm14 an14 cd14 ct14),sl14⟩)
  (c14:codeIn K cd14 "fits" = true)
  (k14:keepIn K (.ref g14)=true)
  (a15:nsIn K mainGlobals "has_form" = some (some (.ref g15)))
  (l15:K.lookup g15=some ⟨oc15,od15,.func (fnOf "has_form" "has_form" (aI fm) (ao fm) (aa fm) .none kV15 dc15 pm15 an15 cd15 ct15),sl15⟩)
  (c15:codeIn K cd15 "has_form" = true)
  (k15:keepIn K (.ref g15)=true)
  (a16:nsIn K mainGlobals "is_written" = some (some (.ref g16)))
  (l16:K.lookup g16=some ⟨oc16,od16,.func (fnOf "is_written" "is_written" (aI dm) (ao dm) (aa dm) .none kV16 dc16 pm16 an16 cd16 ct16),sl16⟩)
  (c16:codeIn K cd16 "is_written" = true)
  (k16:keepIn K (.ref g16)=true)
  (a17:nsIn K mainGlobals "number_of" = some (some (.ref g17)))
  (l17:K.lookup g17=some ⟨oc17,od17,.func (fnOf "number_of" "number_of" (aI dS) (ao dS) (aa dS) .none kV17 dc17 pm17 an17 cd17 ct17),sl17⟩)
  (c17:codeIn K cd17 "number_of" = true)
  (k17:keepIn K (.ref g17)=true)
  (a18:nsIn K mainGlobals "place_of" = some (some (.ref g18)))
  (l18:K.lookup g18=some ⟨oc18,od18,.func (fnOf "place_of" "place_of" (aI fe) (ao fe) (aa fe) .none kV18 dc18 pm18 an18 cd18 ct18),sl18⟩)
  (c18:codeIn K cd18 "place_of" = true)
  (k18:keepIn K (.ref g18)=true)
  (a19:nsIn K mainGlobals "values_of" = some (some (.ref g19)))
  (l19:K.lookup g19=some ⟨oc19,od19,.func (fnOf "values_of" "values_of" (aI dR) (ao dR) (aa dR) .none kV19 dc19 pm19 an19 cd19 ct19),sl19⟩)
  (c19:codeIn K cd19 "values_of" = true)
  (k19:keepIn K (.ref g19)=true)
  (a20:nsIn K mainGlobals "deed_read" = some (some (.ref g20)))
  (l20:K.lookup g20=some ⟨oc20,od20,.func (fnOf "deed_read" "deed_read" (aI dW) (ao dW) (aa dW) .none kV20 dc20 pm20 an20 cd20 ct20),sl20⟩)
  (c20:codeIn K cd20 "deed_read" = true)
  (k20:keepIn K (.ref g20)=true)
  (f21_0:findIn K (.ref C0) "take_deed" = some (some (.ref g21)))
  (l21:K.lookup g21=some ⟨oc21,od21,.func (fnOf "take_deed" "Reader.take_deed" (aI bB) (ao bB) (aa bB) .none kV21 dc21 pm21 an21 cd21 ct21),sl21⟩)
  (c21:codeIn K cd21 "Reader.take_deed" = true)
  (k21:keepIn K (.ref g21)=true)
  (i21:isFn K (.ref g21)=true)
  (f22_0:findIn K (.ref C0) "take_end" = some (some (.ref g22)))
  (l22:K.lookup g22=some ⟨oc22,od22,.func (fnOf "take_end" "Reader.take_end" (aI bO) (ao bO) (aa bO) .none kV22 dc22 pm22 an22 cd22 ct22),sl22⟩)
  (c22:codeIn K cd22 "Reader.take_end" = true)
  (k22:keepIn K (.ref g22)=true)
  (i22:isFn K (.ref g22)=true)
  (f23_0:findIn K (.ref C0) "take_row" = some (some (.ref g23)))
  (l23:K.lookup g23=some ⟨oc23,od23,.func (fnOf "take_row" "Reader.take_row" (aI bN) (ao bN) (aa bN) .none kV23 dc23 pm23 an23 cd23 ct23),sl23⟩)
  (c23:codeIn K cd23 "Reader.take_row" = true)
  (k23:keepIn K (.ref g23)=true)
  (i23:isFn K (.ref g23)=true)
  (f24_0:findIn K (.ref C0) "take_shut" = some (some (.ref g24)))
  (l24:K.lookup g24=some ⟨oc24,od24,.func (fnOf "take_shut" "Reader.take_shut" (aI bA) (ao bA) (aa bA) .none kV24 dc24 pm24 an24 cd24 ct24),sl24⟩)
  (c24:codeIn K cd24 "Reader.take_shut" = true)
  (k24:keepIn K (.ref g24)=true)
  (i24:isFn K (.ref g24)=true)
  (f25_0:findIn K (.ref C0) "take" = some (some (.ref g25)))
  (l25:K.lookup g25=some ⟨oc25,od25,.func (fnOf "take" "Reader.take" (aI cT) (ao cT) (aa cT) .none kV25 dc25 pm25 an25 cd25 ct25),sl25⟩)
  (c25:codeIn K cd25 "Reader.take" = true)
  (k25:keepIn K (.ref g25)=true)
  (i25:isFn K (.ref g25)=true)
  (a26:nsIn K mainGlobals "read" = some (some (.ref g26)))
  (l26:K.lookup g26=some ⟨oc26,od26,.func (fnOf "read" "read" (aI mN) (ao mN) (aa mN) .none kV26 dc26 pm26 an26 cd26 ct26),sl26⟩)
  (c26:codeIn K cd26 "read" = true)
  (k26:keepIn K (.ref g26)=true)
  (a27:nsIn K mainGlobals "law" = some (some (.ref g27)))
  (l27:K.lookup g27=some ⟨oc27,od27,.func (fnOf "law" "law" (aI oI) (ao oI) (aa oI) .none kV27 dc27 pm27 an27 cd27 ct27),sl27⟩)
  (c27:codeIn K cd27 "law" = true)
  (k27:keepIn K (.ref g27)=true)
  (na_bells_0:findIn K (.ref C0) "bells" = some none)
  (na_boxes_0:findIn K (.ref C0) "boxes" = some none)
  (na_rows_0:findIn K (.ref C0) "rows" = some none)
  (na_stretches_0:findIn K (.ref C0) "stretches" = some none)
  (zk_FORMS:nsIn K mainGlobals "FORMS" = some (some uk_FORMS))
  (ck_FORMS:dI K 3 (.tup [(.tup [(.str "put"),(.str "BOX"),(.str "NUMBER")]),(.tup [(.str "put"),(.str "BOX"),(.str "NUMBER"),(.str "NUMBER")]),(.tup [(.str "copy"),(.str "BOX"),(.str "BOX")]),(.tup [(.str "grow"),(.str "BOX"),(.str "NUMBER")]),(.tup [(.str "tick"),(.str "BOX")]),(.tup [(.str "still"),(.str "NUMBER")]),(.tup [(.str "here"),(.str "BOX"),(.str "is"),(.str "BOX"),(.str "plus"),(.str "NUMBER")]),(.tup [(.str "here"),(.str "BOX"),(.str "most"),(.str "BOX"),(.str "plus"),(.str "NUMBER")]),(.tup [(.str "none"),(.str "BOX")]),(.tup [(.str "anew"),(.str "BOX"),(.str "from"),(.str "BOX"),(.str "by"),(.str "BOX")])]) uk_FORMS=true)
  (zk_RANKS:nsIn K mainGlobals "RANKS" = some (some uk_RANKS))
  (ck_RANKS:dI K 3 (.tup [(.str "1"),(.str "2"),(.str "3"),(.str "4"),(.str "5"),(.str "6"),(.str "7"),(.str "8"),(.str "9")]) uk_RANKS=true)
  (z_all:nsIn K mainGlobals "all" = some none)
  (z_bool:nsIn K mainGlobals "bool" = some none)
  (z_enumerate:nsIn K mainGlobals "enumerate" = some none)
  (z_int:nsIn K mainGlobals "int" = some none)
  (z_isinstance:nsIn K mainGlobals "isinstance" = some none)
  (z_len:nsIn K mainGlobals "len" = some none)
  (z_list:nsIn K mainGlobals "list" = some none)
  (z_range:nsIn K mainGlobals "range" = some none)
  (z_set:nsIn K mainGlobals "set" = some none)
  (z_sorted:nsIn K mainGlobals "sorted" = some none)
  (z_str:nsIn K mainGlobals "str" = some none)
  (z_sum:nsIn K mainGlobals "sum" = some none)
  (z_tuple:nsIn K mainGlobals "tuple" = some none)
  (z_zip:nsIn K mainGlobals "zip" = some none)
  (zg_FIGURES:nsIn K mainGlobals "FIGURES" = some (some (.str ("0123456789") tg_FIGURES)))
  (zg_HIGHEST:nsIn K mainGlobals "HIGHEST" = some (some (.int (1000000000) tg_HIGHEST)))
  (zg_LETTERS:nsIn K mainGlobals "LETTERS" = some (some (.str ("abcdefghijklmnopqrstuvwxyz") tg_LETTERS)))
  (zg_LONGEST:nsIn K mainGlobals "LONGEST" = some (some (.int (8) tg_LONGEST)))
  (zg_LOWEST:nsIn K mainGlobals "LOWEST" = some (some (.int (-1000000000) tg_LOWEST)))
  (zg_MOST_BELLS:nsIn K mainGlobals "MOST_BELLS" = some (some (.int (6) tg_MOST_BELLS)))
  (zg_MOST_DEEDS:nsIn K mainGlobals "MOST_DEEDS" = some (some (.int (12) tg_MOST_DEEDS)))
  (zg_MOST_STRETCHES:nsIn K mainGlobals "MOST_STRETCHES" = some (some (.int (12) tg_MOST_STRETCHES))):
  (∃cls,GN K mg cls)/\lL mg:=by
 have e_Reader:CD [("Reader",C0)] "Reader" = C0:=Ep;generalize CD [("Reader",C0)]=cls at *;exact⟨⟨cls,⟨cx X G a0 l0 c0 k0 λ_ _ _ _ _ _ us hl=>match us,hl with|[_,_,_],_=>rfl,
  cx X G a1 l1 c1 k1 λ_ _ _ _ _ _ us hl=>match us,hl with|[_,_,_],_=>rfl,
  cx X G a2 l2 c2 k2 λ_ _ _ _ _ _ us hl=>match us,hl with|[_,_,_],_=>rfl,
  cx X G a3 l3 c3 k3 λ_ _ _ _ _ _ us hl=>match us,hl with|[_,_,_,_],_=>rfl,
  cx X G a4 l4 c4 k4 λ_ _ _ _ _ _ us hl=>match us,hl with|[_,_],_=>rfl,
  C3 X G e_Reader ca0 f5 l5 c5 k5 i5 m5 n5 o5 q5 r5 (λ_ _ _ _ _ _ us hl=>match us,hl with|[_],_=>rfl),
  dz l6 c6 k6 i6 (λ_ _ _ _ _ _ us hl=>match us,hl with|[_],_=>rfl) (all_cons (by rw[e_Reader];exact⟨⟨cp0,ch0,co0,cs0⟩,f6_0⟩) d7),
  dz l7 c7 k7 i7 (λ_ _ _ _ _ _ us hl=>match us,hl with|[_],_=>rfl) (all_cons (by rw[e_Reader];exact⟨⟨cp0,ch0,co0,cs0⟩,f7_0⟩) d7),
  dz l8 c8 k8 i8 (λ_ _ _ _ _ _ us hl=>match us,hl with|[_],_=>rfl) (all_cons (by rw[e_Reader];exact⟨⟨cp0,ch0,co0,cs0⟩,f8_0⟩) d7),
  dz l9 c9 k9 i9 (λ_ _ _ _ _ _ us hl=>match us,hl with|[_],_=>rfl) (all_cons (by rw[e_Reader];exact⟨⟨cp0,ch0,co0,cs0⟩,f9_0⟩) d7),
  cx X G a10 l10 c10 k10 λ_ _ _ _ _ _ us hl=>match us,hl with|[_,_],_=>rfl,
  cx X G a11 l11 c11 k11 λ_ _ _ _ _ _ us hl=>match us,hl with|[_],_=>rfl,
  dz l12 c12 k12 i12 (λ_ _ _ _ _ _ us hl=>match us,hl with|[_,_],_=>rfl) (all_cons (by rw[e_Reader];exact⟨⟨cp0,ch0,co0,cs0⟩,f12_0⟩) d7),
  cx X G a13 l13 c13 k13 λ_ _ _ _ _ _ us hl=>match us,hl with|[_,_,_],_=>rfl,
  cx X G a14 l14 c14 k14 λ_ _ _ _ _ _ us hl=>match us,hl with|[_,_],_=>rfl,
  cx X G a15 l15 c15 k15 λ_ _ _ _ _ _ us hl=>match us,hl with|[_,_],_=>rfl,
  cx X G a16 l16 c16 k16 λ_ _ _ _ _ _ us hl=>match us,hl with|[_],_=>rfl,
  cx X G a17 l17 c17 k17 λ_ _ _ _ _ _ us hl=>match us,hl with|[_],_=>rfl,
  cx X G a18 l18 c18 k18 λ_ _ _ _ _ _ us hl=>match us,hl with|[_,_],_=>rfl,
  cx X G a19 l19 c19 k19 λ_ _ _ _ _ _ us hl=>match us,hl with|[_,_,_],_=>rfl,
  cx X G a20 l20 c20 k20 λ_ _ _ _ _ _ us hl=>match us,hl with|[_,_],_=>rfl,
  dz l21 c21 k21 i21 (λ_ _ _ _ _ _ us hl=>match us,hl with|[_,_],_=>rfl) (all_cons (by rw[e_Reader];exact⟨⟨cp0,ch0,co0,cs0⟩,f21_0⟩) d7),
  dz l22 c22 k22 i22 (λ_ _ _ _ _ _ us hl=>match us,hl with|[_,_],_=>rfl) (all_cons (by rw[e_Reader];exact⟨⟨cp0,ch0,co0,cs0⟩,f22_0⟩) d7),
  dz l23 c23 k23 i23 (λ_ _ _ _ _ _ us hl=>match us,hl with|[_,_],_=>rfl) (all_cons (by rw[e_Reader];exact⟨⟨cp0,ch0,co0,cs0⟩,f23_0⟩) d7),
  dz l24 c24 k24 i24 (λ_ _ _ _ _ _ us hl=>match us,hl with|[_,_],_=>rfl) (all_cons (by rw[e_Reader];exact⟨⟨cp0,ch0,co0,cs0⟩,f24_0⟩) d7),
  dz l25 c25 k25 i25 (λ_ _ _ _ _ _ us hl=>match us,hl with|[_,_],_=>rfl) (all_cons (by rw[e_Reader];exact⟨⟨cp0,ch0,co0,cs0⟩,f25_0⟩) d7),
  cx X G a26 l26 c26 k26 λ_ _ _ _ _ _ us hl=>match us,hl with|[_],_=>rfl,
  cx X G a27 l27 c27 k27 λ_ _ _ _ _ _ us hl=>match us,hl with|[_],_=>rfl,
  (all_cons (by rw[e_Reader];exact⟨⟨cp0,ch0,co0,cs0⟩,na_bells_0⟩) d7),
  (all_cons (by rw[e_Reader];exact⟨⟨cp0,ch0,co0,cs0⟩,na_boxes_0⟩) d7),
  (all_cons (by rw[e_Reader];exact⟨⟨cp0,ch0,co0,cs0⟩,na_rows_0⟩) d7),
  (all_cons (by rw[e_Reader];exact⟨⟨cp0,ch0,co0,cs0⟩,na_stretches_0⟩) d7),
  ⟨uk_FORMS,3,mg_of X G zk_FORMS,ck_FORMS⟩,
  ⟨uk_RANKS,3,mg_of X G zk_RANKS,ck_RANKS⟩⟩⟩,⟨mg_none_of X G z_all,mg_none_of X G z_bool,mg_none_of X G z_enumerate,mg_none_of X G z_int,mg_none_of X G z_isinstance,mg_none_of X G z_len,mg_none_of X G z_list,mg_none_of X G z_range,mg_none_of X G z_set,mg_none_of X G z_sorted,mg_none_of X G z_str,mg_none_of X G z_sum,mg_none_of X G z_tuple,mg_none_of X G z_zip,GV.str (mg_of X G zg_FIGURES),GV.int (mg_of X G zg_HIGHEST),GV.str (mg_of X G zg_LETTERS),GV.int (mg_of X G zg_LONGEST),GV.int (mg_of X G zg_LOWEST),GV.int (mg_of X G zg_MOST_BELLS),GV.int (mg_of X G zg_MOST_DEEDS),GV.int (mg_of X G zg_MOST_STRETCHES)⟩⟩
end Bell
namespace PySem.W.Fast
def tw18396499467688772711:=0
def tw15867617917906993305:=0
def tw7192093664954536372:=0
def tw2122857390058275676:=0
def tw9597507216095272306:=0
def tw3366591275985242720:=0
def tw8667350633833161278:=0
def tw17317841490644467193:=0
def tw10512581111136847019:=0
def tw3943525920716656107:=0
def tw17664217863547102256:=0
def tw1664976678208156686:=0
def tw7733640389382695249:=0
def tw10861017751354241062:=0
def tw11754289004164136975:=0
def tw16536334744961740929:=0
def tw11035685813970371644:=0
def tw14326630087078862597:=0
def tw6723276679380580519:=0
def tw13812568937606141724:=0
def tw5099851915859897810:=0
def tw1959727794529407937:=0
def tw2302303983727655657:=0
def tw9098694446994224725:=0
def tw18415449866852492989:=0
def tw11521048718635158252:=0
def tw2212124760575087757:=0
def tw422093656129226742:=0
def tw16506251620708914397:=0
def tw1501260886180119253:=0
def tw15979927513276057380:=0
def tw23395849994541285:=0
def tw10307977687909207620:=0
def tw13651531233879228821:=0
def tw5291110167408439082:=0
def tw9200001509324856552:=0
def tw1691375384602334159:=0
def tw12735222493006660187:=0
def tw16755257641493746360:=0
def tw10048397665592853384:=0
def tw17851627754526376635:=0
def tw18280961217896033295:=0
def tw11885595079301103720:=0
def tw8912469476960615816:=0
def tw16865341753561051678:=0
def tw9587547675563342105:=0
def tw15034019610910761142:=0
def tw12576685417360298382:=0
def tw4335572809116532593:=0
def tw16327091899958952107:=0
def tw17026140750136345976:=0
def tw4510860694556095814:=0
def tw7933806604964487624:=0
def tw5687884751759361679:=0
def tw8236385403913814279:=0
def tw3960814952586107706:=0
def tw14773947380479172842:=0
def tw256756992199393523:=0
def tw1001161396745457389:=0
def tw14001493826826883824:=0
def tw16995102917262321314:=0
def tw14769238856064766371:=0
def tw6668782278487700025:=0
def tw9759199591497883907:=0
def tw6147780982780049994:=0
def tw13874530884752921457:=0
def tw14004919598330598568:=0
def tw11915323931991038579:=0
def tw1110814909483186889:=0
def tw6589103881806035506:=0
def tw11261221292992433127:=0
def tw3814768809632598413:=0
def tw11776342625669521632:=0
def tw10046779548008702910:=0
def tw12145323788894263995:=0
def tw6057455542617506236:=0
def tw1142933796627553092:=0
def tw621905805705951593:=0
def tw1293412321758487131:=0
def tw8317229728047160218:=0
def tw18159810420151127587:=0
def tw5992369587532495799:=0
def tw13620457106709735476:=0
def tw99876609909490813:=0
def tw983266061301649834:=0
def tw8995396675951790056:=0
def tw1704306194172634558:=0
def tw8018303145842120323:=0
def tw14840698193998434964:=0
def tw7163985367178813111:=0
def tw5673304841973346612:=0
def tw3273713504939304973:=0
def tw8417909270351548030:=0
def tw4837572823104799499:=0
def tw2026957637214866751:=0
def tw10980091939899137640:=0
def tw14909867747044990442:=0
def tw5277556876323398804:=0
def tw9989426282287914684:=0
def tw15779851148451747771:=0
def tw3046159863236260146:=0
def tw17942762251811951265:=0
def tw8199676753547648005:=0
def tw7241566709376275657:=0
def tw13701681479901589277:=0
def tw15016695009288881862:=0
def tw16656597247820598162:=0
def tw1380350879921507417:=0
def tw17002908654354062366:=0
def tw7632593046722814197:=0
def tw4845896111864663361:=0
def tw8826929392901557326:=0
def tw3054811543055894632:=0
def tw16770989519678220058:=0
def tw12905550206558620441:=0
def tw11080181452798921652:=0
def tw1772636512896289219:=0
def tw17639986629967647461:=0
def tw15946681400502365677:=0
def tw13131108728860482041:=0
def tw10886857221344795853:=0
def tw11708611532010752923:=0
def tw13658681312202947687:=0
def tw5866139877826684773:=0
def tw4043057937499612402:=0
def tw3926811238713565196:=0
def tw3772537834545620921:=0
def tw2923197409201664959:=0
def tw18437378867536323798:=0
def tw17962893539035842687:=0
def tw11828111015138980019:=0
def tw781402627934589417:=0
def tw10523904691252170828:=0
def tw1729725596590657262:=0
def tw8488446543818204921:=0
def tw1894285321982238358:=0
def tw16218462192163367084:=0
def tw14432520587361290589:=0
def tw289176024045906637:=0
def tw5331437227748300749:=0
def tw2382357329715661462:=0
def tw1855210402626669095:=0
def tw17445460992640556891:=0
def tw17288014014005930682:=0
def tw14614774357370710532:=0
def tw10915209442124894297:=0
def tw10554128515287509444:=0
def tw12140580891383061859:=0
def tw5467425660483499597:=0
def tw15403468355979362432:=0
def tw10632659144034598041:=0
def tw7177239473671633306:=0
def tw3873161998072420379:=0
def tw5312763126211702104:=0
def tw16013822324362944889:=0
def tw13397047556856308262:=0
def tw2517234726052735826:=0
def tw3876680819281719907:=0
def tw23931976758378774:=0
def tw10509107925173891923:=0
def tw1026814299146396136:=0
def tw1567905553801438407:=0
def tw10170301486293100295:=0
def tw18120651115676488240:=0
def tw15484133597193099242:=0
def tw1356026857680774152:=0
def tw15964150728258175114:=0
def tw3979894361024058874:=0
def tw3435721027431093158:=0
def tw4173592044008552955:=0
def tw2152240747374393572:=0
def tw16910529737508440475:=0
def tw17305974920303520490:=0
def tw12434601715059536050:=0
def tw720793163620581776:=0
def tw3574785233446526683:=0
def tw17478129038100503363:=0
def tw12553951783470591094:=0
def tw6199318163183722657:=0
def tw16515753312368979307:=0
def tw9312592171752883099:=0
def tw8439671837888903277:=0
def tw11565239933861310268:=0
def tw11211792824257148037:=0
def tw9787455181862478729:=0
def tw9400106113226348774:=0
end PySem.W.Fast
open PySem PySem.W PyProof.Rows
set_option maxRecDepth 100000 in
set_option maxHeartbeats 0 in
theorem PySem.Challenge.cw_bellnest_k08_stretches_holds : PySem.Challenge.rw_bellnest_k08_stretches.Holds := by
 w_on;o_law;k_head;(case hw=>w_witness2)
 k_fill
 refine Bell.walk (l:=PySem.Challenge.rw_bellnest_k08_stretches) Bell.law_true rfl rfl rfl (λw h Y=>PySem.W.kIn_of Y) ?F
 case F=>
  intro w mg h KX G;refine' Bell.defs_mk KX G ?_ ?_ ?_ ?_ ?_ ?_ ?_ ?_ ?_ ?_ ?_ ?_ ?_ ?_ ?_ ?_ ?_ ?_ ?_ ?_ ?_ ?_ ?_ ?_ ?_ ?_ ?_ ?_ ?_ ?_ ?_ ?_ ?_ ?_ ?_ ?_ ?_ ?_ ?_ ?_ ?_ ?_ ?_ ?_ ?_ ?_ ?_ ?_ ?_ ?_ ?_ ?_ ?_ ?_ ?_ ?_ ?_ ?_ ?_ ?_ ?_ ?_ ?_ ?_ ?_ ?_ ?_ ?_ ?_ ?_ ?_ ?_ ?_ ?_ ?_ ?_ ?_ ?_ ?_ ?_ ?_ ?_ ?_ ?_ ?_ ?_ ?_ ?_ ?_ ?_ ?_ ?_ ?_ ?_ ?_ ?_ ?_ ?_ ?_ ?_ ?_ ?_ ?_ ?_ ?_ ?_ ?_ ?_ ?_ ?_ ?_ ?_ ?_ ?_ ?_ ?_ ?_ ?_ ?_ ?_ ?_ ?_ ?_ ?_ ?_ ?_ ?_ ?_ ?_ ?_ ?_ ?_ ?_ ?_ ?_ ?_ ?_ ?_ ?_ ?_ ?_ ?_ ?_ ?_ ?_ ?_ ?_ ?_ ?_ ?_ ?_ ?_ ?_ ?_ ?_ ?_ ?_ ?_ ?_ ?_ ?_ ?_ ?_
  all_goals (try (first|k_is|kernel_rfl!))
