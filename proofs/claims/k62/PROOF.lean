import PyProof.Rows.All
import Wide.All
import OpenK.AllK
import Wide.FinOn
import Lean
import PyProof.EqAt
import PyProof.EqKinds
import PyProof.TupleCall
import PySem.SetOps
import PySem.Challenge.RW_bellnest_k62_states_break
noncomputable section
set_option Elab.async false
set_option linter.all false
set_option maxRecDepth 100000
open PySem.W (Frag KdlSrc callWith_K cellsFrom_some codeIn emptyDict findCls findIn fnOf handedIn hasDictIn instObj isFn keepIn kia_one kitOne kitx_dict kitx_list lookIn makesIn methodObj mg_none_of mg_of mroIn nsIn plainGet plainGet_of plainOver readsIn specialIn takerIn takesIn)
open List (all_eq_true all_map any_cons append_nil cons_append filterMap_cons flatten_cons foldl_cons forIn_cons forIn_nil getD_eq_getElem?_getD getElem?_append_left getElem?_append_right getElem?_cons_succ getElem?_cons_zero getElem?_eq_getElem getElem?_eq_none getElem?_map getElem?_range getElem?_replicate getElem?_set_ne getElem?_set_self getElem_mem getElem_of_mem length_append length_cons length_drop length_map length_nil length_range length_replicate length_set length_singleton length_take lookup_cons map_append map_cons map_map map_nil mem_append mem_append_left mem_append_right mem_cons mem_cons_of_mem mem_cons_self mem_filter mem_map mem_of_getElem? mem_range mem_singleton nil_append nodup_cons not_mem_nil of_mem_zip pairwise_cons replicate replicate_succ set_cons_succ set_cons_zero size_toArray zipWith zip_cons_cons)
open PySem.Heap (get?_push_of_some get?_push_size get?_update_other get?_update_self lt_size size_push)
open Nat (le_add_right le_of_eq le_of_lt le_refl le_trans lt_irrefl lt_of_le_of_lt lt_of_lt_of_le lt_succ_of_lt lt_succ_self ne_of_gt ne_of_lt reduceAdd reduceLeDiff reduceSub zero_le)
open Array (getElem?_toList length_toList)
open Bool (and_eq_true false_eq_true)
open Int (emod_lt_of_pos emod_nonneg reduceEq toNat_natCast)
namespace L2
open PySem PySem.Spec PyProof.Rows
abbrev Key:=Sum Int Str
def keyIs:Key->Value->Bool
 | .inl k,v=>Value.isInt k v
 | .inr x,v=>Value.isStrOf x v
def keyH (w:World):Key->Int
 | .inl k=>hashInt k
 | .inr x=>hashStr w x
theorem a1K:∀{k:Key} {v:Value},keyIs k v=true->(∃i t,k=Sum.inl i/\v=Value.int i t)\/(∃x t,k=Sum.inr x/\v=Value.str x t)
 | .inl i,v,h=>by
  obtain ⟨t,e⟩:=Value.isInt_shape (k:=i) (v:=v) h
  exact .inl ⟨i,t,rfl,e⟩
 | .inr x,v,h=>by
  obtain ⟨t,e⟩:=Value.isStrOf_shape (x:=x) (v:=v) h
  exact .inr ⟨x,t,rfl,e⟩
theorem key_ll (a b:Int):decide ((Sum.inl a:Key)=Sum.inl b)=(a == b):=by
 by_cases e:a=b
 ·subst e;simp
 ·have h:¬(Sum.inl a:Key)=Sum.inl b:=fun q=>e (Sum.inl.inj q)
  rw [decide_eq_false h]
  exact (beq_eq_false_iff_ne.mpr e).symm
theorem key_rr (a b:Str):decide ((Sum.inr a:Key)=Sum.inr b)=decide (a=b):=by
 by_cases e:a=b
 ·subst e;simp
 ·have h:¬(Sum.inr a:Key)=Sum.inr b:=fun q=>e (Sum.inr.inj q)
  rw [decide_eq_false h,decide_eq_false e]
theorem key_lr (a:Int) (b:Str):decide ((Sum.inl a:Key)=Sum.inr b)=false:=decide_eq_false (fun q=>nomatch q)
theorem key_rl (a:Str) (b:Int):decide ((Sum.inr a:Key)=Sum.inl b)=false:=decide_eq_false (fun q=>nomatch q)
def b4U (prog:Program) (w:World):PySem.KeyKind prog w Key where
 is:=keyIs
 hash:=keyH w
 inj:=fun v a b ha hb=>by
  rcases a1K ha with ⟨i,t,rfl,rfl⟩|⟨x,t,rfl,rfl⟩
  ·rcases a1K hb with ⟨j,u,rfl,e⟩|⟨y,u,rfl,e⟩
   ·injection e with e1 _;rw [e1]
   ·exact nomatch e
  ·rcases a1K hb with ⟨j,u,rfl,e⟩|⟨y,u,rfl,e⟩
   ·exact nomatch e
   ·injection e with e1 _;rw [e1]
 byValue:=fun k v h=>by
  rcases a1K h with ⟨i,t,rfl,rfl⟩|⟨x,t,rfl,rfl⟩ <;> rfl
 pyHash:=fun hv h=>by
  rcases a1K hv with ⟨i,t,rfl,rfl⟩|⟨x,t,rfl,rfl⟩
  ·exact wpAny_pyHash_int h
  ·exact wpAny_pyHash_str h
 eqBool:=fun hu hv h=>by
  rcases a1K hu with ⟨i,t,rfl,rfl⟩|⟨x,t,rfl,rfl⟩
  ·rcases a1K hv with ⟨j,u,rfl,rfl⟩|⟨y,u,rfl,rfl⟩
   ·rw [key_ll] at h;exact wpAny_eqBool_int h
   ·rw [key_lr] at h;exact SeqAt.EqAt.int_str i t y u _ _ _ _ h
  ·rcases a1K hv with ⟨j,u,rfl,rfl⟩|⟨y,u,rfl,rfl⟩
   ·rw [key_rl] at h;exact SeqAt.EqAt.str_int x t j u _ _ _ _ h
   ·rw [key_rr] at h;exact wpAny_eqBool_str h
 «strs»:=fun k x t v h=>by
  rcases a1K h with ⟨i,u,rfl,e⟩|⟨y,u,rfl,e⟩
  ·exact nomatch e
  ·injection e with e1 _
   subst e1
   cases v <;> rfl
inductive V where
 | non|bl (b:Bool)|int (i:Int)|str (x:Str)|byt (b:Array UInt8)|flt (b:UInt64)|ref (a:Addr)|ty (n:String)
 deriving DecidableEq
def RelV:V->Value->Prop
 | .non,u=>u=Value.none
 | .bl b,u=>u=Value.bool b
 | .int i,u=>∃t,u=Value.int i t
 | .str x,u=>∃t,u=Value.str x t
 | .byt b,u=>∃t,u=Value.bytes b t
 | .flt b,u=>∃t,u=Value.float b t
 | .ref a,u=>u=Value.ref a
 | .ty n,u=>u=Value.type n
abbrev Vals:List V->List Value->Prop:=Paired RelV
theorem Vals.length {xs:List V} {us:List Value} (r:Vals xs us):xs.length=us.length:=Paired.length r
theorem Vals.get:∀{xs:List V} {us:List Value} {i:Nat} {x:V},Vals xs us->xs[i]?=some x->∃u,us[i]?=some u/\RelV x u
 | _,_,_,_,.nil,e=>by simp at e
 | _,_,0,_,.cons r _,e=>by simp at e;subst e;exact ⟨_,rfl,r⟩
 | _,_,i+1,x,.cons _ t,e=>by
  obtain ⟨u,h1,h2⟩:=Vals.get (i:=i) (x:=x) t (by simpa using e)
  exact ⟨u,by simpa using h1,h2⟩
theorem Vals.set {x:V} {u:Value} (r:RelV x u):∀{xs:List V} {us:List Value} (i:Nat),Vals xs us->Vals (xs.set i x) (us.set i u)
 | _,_,_,.nil=>.nil
 | _,_,0,.cons _ t=>.cons r t
 | _,_,i+1,.cons q t=>.cons q (Vals.set r i t)
theorem Vals.append:∀{xs ys:List V} {us ws:List Value},Vals xs us->Vals ys ws->Vals (xs++ys) (us++ws)
 | _,_,_,_,.nil,s=>s
 | _,_,_,_,.cons r t,s=>.cons r (Vals.append t s)
theorem Vals.take:∀{xs:List V} {us:List Value} (n:Nat),Vals xs us->Vals (xs.take n) (us.take n)
 | _,_,0,_=>.nil
 | _,_,_+1,.nil=>.nil
 | _,_,n+1,.cons r t=>.cons r (Vals.take n t)
theorem Vals.drop:∀{xs:List V} {us:List Value} (n:Nat),Vals xs us->Vals (xs.drop n) (us.drop n)
 | _,_,0,r=>r
 | _,_,_+1,.nil=>.nil
 | _,_,n+1,.cons _ t=>Vals.drop n t
def RelO:Option V->Option Value->Prop
 | some v,some u=>RelV v u
 | none,none=>True
 | _,_=>False
def KV {κ:Type}:List (κ×V)->List (κ×Value)->Prop:=Paired fun (p:κ×V) (q:κ×Value)=>p.1=q.1/\RelV p.2 q.2
def kV:Key->V
 | .inl i=>.int i
 | .inr x=>.str x
inductive HO where
 | lst (xs:List V)
 | tup (xs:List V)
 | dK (kvs:List (Key×V))|dT (kvs:List (List Key×V))
 | set (S:Int->Bool) (n:Nat)
 | ins (C dx:Addr) (fs:List (Str×V))
 | own (x:Addr)
 | xd (fs:List (Str×V))
 | met (f x:Addr)
 | rng (lo hi:Int)
 | frz (o:Obj) (u:HO)
 | tbl (ps:Array Value)
 | tab (good:Pos->Option Str)
 | fnc (c:Addr) (q:Str)
 | ext (φ:Heap->Prop)
abbrev Hp:=Addr->Option HO
def upd (H:Hp) (a:Addr) (o:HO):Hp:=fun b=>if b=a then some o else H b
theorem a0W {H:Hp} {a:Addr} {o:HO}:upd H a o a=some o:=by unfold upd;rw [if_pos rfl]
theorem a0S {H:Hp} {a b:Addr} {o:HO} (h:b≠a):upd H a o b=H b:=by unfold upd;rw [if_neg h]
theorem a0O {H:Hp} {a b:Addr} {o:HO} (h:H a=some o) (h':H b=none):a≠b:=by
 intro e;subst e;rw [h] at h';cases h'
section
variable (P:Program) (w:World)
def a3G (H:Hp) (h:Heap) (a:Addr):HO->Prop
 | .lst xs=>xs.length<=sizeLine/\∃(its:List Value) (n:Nat),Vals xs its/\h.get? a=some { cls:=.type "list",data:=.seq its.toArray n }
 | .tup xs=>xs.length<=sizeLine/\∃its:List Value,Vals xs its/\IsTup h a its.toArray
 | .dK kvs=>kvs.length<=sizeLine/\(a == sysModules)=false/\∃vs,KV kvs vs/\h.DictOf (b4U P w) a vs
 | .dT kvs=>kvs.length<=sizeLine/\(a == sysModules)=false/\∃xs:List (List Key×Addr×Value),
   Paired (fun (p:List Key×V) (q:List Key×Addr×Value)=>p.1=q.1/\H q.2.1=some (.tup (p.1.map kV))/\RelV p.2 q.2.2) kvs xs/\
   ∃o es ep,h.get? a=some o/\o.ExactDict/\o.data=.dict es ep/\es.toList=xs.map (entryOfKey (tupleKind (b4U P w)))/\(xs.map (·.1)).Nodup
 | .set S n=>h.SetOf (intKind P w) a S n
 | .ins C dx fs=>H dx=some (.own a)/\fs.length<=1000/\dx≠a/\h.get? a=some (instObj C dx)/\
   ∃mA,h.Ns1 dx mA/\(∀f,RelO (fs.lookup f) (mA f))/\PySem.Within mA (fs.map (·.1))
 | .own _=>∃o,h.get? a=some o
 | .xd fs=>∃mA,h.Ns1 a mA/\∀f,RelO (fs.lookup f) (mA f)
 | .rng lo hi=>∃t u v,h.get? a=some { cls:=.type "range",data:=.fields #[.int lo t,.int hi u,.int 1 v] }
 | .frz o u=>h.get? a=some o/\a3G H h a u
 | .tbl ps=>h.get? a=some { cls:=.none,data:=.fields ps }
 | .tab good=>∃ps:Array Value,h.get? a=some { cls:=.none,data:=.fields ps }/\TriplesOk ps.toList/\∀p cv,(good p).isSome=true->codeAmong p ps.toList=some cv->∃(c:Addr) (oc:Obj) (q:Str) (vs:Array Value) (t:Tok),cv=.ref c/\H c=some (.frz oc (.own c))/\good p=some q/\oc.data=.fields vs/\vs[1]?=some (.str q t)
 | .fnc c q=>(∃o,h.get? a=some o)/\∃(oc:Obj) (vs:Array Value) (t:Tok),H c=some (.frz oc (.own c))/\oc.data=.fields vs/\vs[1]?=some (.str q t)
 | .met f x=>h.get? a=some (methodObj (.ref f) (.ref x))
 | .ext φ=>φ h/\(∃o,h.get? a=some o)/\∀h1 h2:Heap,φ h1->(∀o,h1.get? a=some o->h2.get? a=some o)->φ h2
def HOk (H:Hp) (h:Heap):Prop:=∀a o,H a=some o->a3G P w H h a o
end
section
variable {P:Program} {w:World} {H H':Hp} {h h':Heap} {a:Addr} {o:HO}
theorem a3G.lt (x:a3G P w H h a o):a<h.objs.size:=by
 cases o with
 | lst xs=>obtain ⟨_,_,_,_,e⟩:=x;exact lt_size e
 | tup xs=>obtain ⟨_,_,_,p⟩:=x;exact p.lt
 | dK kvs=>obtain ⟨_,_,_,_,o,_,_,e,_⟩:=x;exact lt_size e
 | dT kvs=>obtain ⟨_,_,_,_,o,_,_,e,_⟩:=x;exact lt_size e
 | set S n=>obtain ⟨o,_,_,_,e,_⟩:=x;exact lt_size e
 | ins C dx fs=>obtain ⟨_,_,_,e,_⟩:=x;exact lt_size e
 | own y=>obtain ⟨_,e⟩:=x;exact lt_size e
 | xd fs=>obtain ⟨_,⟨_,_,_,e,_⟩,_⟩:=x;exact lt_size e
 | rng lo hi=>obtain ⟨_,_,_,e⟩:=x;exact lt_size e
 | frz ob u=>obtain ⟨e,_⟩:=x;exact lt_size e
 | tbl ps=>exact lt_size (show h.get? a=some _ from x)
 | tab good=>obtain ⟨_,e,_⟩:=x;exact lt_size e
 | fnc c q=>obtain ⟨⟨_,e⟩,_⟩:=x;exact lt_size e
 | met f y=>exact lt_size (show h.get? a=some _ from x)
 | ext φ=>obtain ⟨_,⟨_,e⟩,_⟩:=x;exact lt_size e
theorem Paired.mapP {α β:Type} {F G:α->β->Prop}:∀{l₁:List α} {l₂:List β},Paired F l₁ l₂->(∀a b,F a b->G a b)->Paired G l₁ l₂
 | _,_,.nil,_=>.nil
 | _,_,.cons r t,f=>.cons (f _ _ r) (Paired.mapP t f)
theorem a3G.stay (x:a3G P w H h a o) (k:∀b u,(b=a\/H b=some (.own a))->h.get? b=some u->h'.get? b=some u)
  (ho:∀b,H b=some (.own a)->H' b=some (.own a)) (ht:∀b xs,H b=some (.tup xs)->H' b=some (.tup xs)) (hf:∀b ob u,H b=some (.frz ob u)->H' b=some (.frz ob u)):a3G P w H' h' a o:=by
 induction o with
 | lst xs=>obtain ⟨z,its,n,r,e⟩:=x;exact ⟨z,its,n,r,k _ _ (.inl rfl) e⟩
 | tup xs=>obtain ⟨z,its,r,ob,e,c⟩:=x;exact ⟨z,its,r,ob,k _ _ (.inl rfl) e,c⟩
 | dK kvs=>obtain ⟨z,y,vs,r,ob,es,ep,e,c⟩:=x;exact ⟨z,y,vs,r,ob,es,ep,k _ _ (.inl rfl) e,c⟩
 | dT kvs=>
  obtain ⟨z,y,xs,r,ob,es,ep,e,c⟩:=x
  exact ⟨z,y,xs,Paired.mapP r fun p q z=>⟨z.1,ht _ _ z.2.1,z.2.2⟩,ob,es,ep,k _ _ (.inl rfl) e,c⟩
 | set S n=>obtain ⟨ob,es,ep,t,e,c⟩:=x;exact ⟨ob,es,ep,t,k _ _ (.inl rfl) e,c⟩
 | ins C dx fs=>
  obtain ⟨d,z,ne,e,mA,⟨od,es,ep,e2,c⟩,r⟩:=x
  exact ⟨ho _ d,z,ne,k _ _ (.inl rfl) e,mA,⟨od,es,ep,k _ _ (.inr d) e2,c⟩,r⟩
 | own y=>obtain ⟨ob,e⟩:=x;exact ⟨ob,k _ _ (.inl rfl) e⟩
 | xd fs=>obtain ⟨mA,⟨od,es,ep,e,c⟩,r⟩:=x;exact ⟨mA,⟨od,es,ep,k _ _ (.inl rfl) e,c⟩,r⟩
 | rng lo hi=>obtain ⟨t,u,v,e⟩:=x;exact ⟨t,u,v,k _ _ (.inl rfl) e⟩
 | frz ob u ih=>obtain ⟨e,q⟩:=x;exact ⟨k _ _ (.inl rfl) e,ih q⟩
 | tbl ps=>
  have e:h.get? a=some { cls:=.none,data:=.fields ps }:=x
  show h'.get? a=some { cls:=.none,data:=.fields ps }
  exact k a _ (.inl rfl) e
 | tab good=>
  obtain ⟨ps,e,tr,q⟩:=x
  refine ⟨ps,k a _ (.inl rfl) e,tr,fun p cv hg hc=>?_⟩
  obtain ⟨c,oc,qq,vs,t,e1,e2,e3⟩:=q p cv hg hc
  exact ⟨c,oc,qq,vs,t,e1,hf _ _ _ e2,e3⟩
 | fnc c q=>
  obtain ⟨⟨ob,e⟩,oc,vs,t,e1,e2⟩:=x
  exact ⟨⟨ob,k _ _ (.inl rfl) e⟩,oc,vs,t,hf _ _ _ e1,e2⟩
 | met f y=>
  have e:h.get? a=some (methodObj (.ref f) (.ref y)):=x
  show h'.get? a=some (methodObj (.ref f) (.ref y))
  exact k a _ (.inl rfl) e
 | ext φ=>obtain ⟨p,⟨o,e⟩,st⟩:=x;exact ⟨st _ _ p fun o q=>k _ _ (.inl rfl) q,⟨o,k _ _ (.inl rfl) e⟩,st⟩
theorem HOk.lt (x:HOk P w H h) (e:H a=some o):a<h.objs.size:=(x a o e).lt
theorem HOk.fresh (x:HOk P w H h) (e:h.objs.size<=a):H a=none:=by
 cases q:H a with
 | none=>rfl
 | some u=>exact absurd (lt_of_lt_of_le (x.lt q) e) (lt_irrefl _)
theorem HOk.kept (x:HOk P w H h) (k:∀b u,h.get? b=some u->h'.get? b=some u):HOk P w H h':=fun a o e=>
 (x a o e).stay (fun b u _ q=>k b u q) (fun _ q=>q) (fun _ _ q=>q) fun _ _ _ q=>q
theorem HOk.laid (x:HOk P w H h) (k:∀b u,h.get? b=some u->h'.get? b=some u) (hp:h.objs.size<=a) (new:a3G P w (upd H a o) h' a o):HOk P w (upd H a o) h':=fun b u e=>by
 have hn:=x.fresh hp
 by_cases hb:b=a
 ·subst hb;rw [a0W] at e;cases e;exact new
 ·rw [a0S hb] at e
  exact (x b u e).stay (fun c v _ q=>k c v q) (fun c q=>by rw [a0S (a0O q hn)];exact q) (fun c xs q=>by rw [a0S (a0O q hn)];exact q) fun c ob u q=>by rw [a0S (a0O q hn)];exact q
end
def Rd (H:Hp) (a:Addr) (u:HO):Prop:=H a=some u\/∃o,H a=some (.frz o u)
theorem Rd.ok {P:Program} {w:World} {H:Hp} {h:Heap} {a:Addr} {u:HO} (r:Rd H a u) (x:HOk P w H h):a3G P w H h a u:=by
 rcases r with r|⟨o,r⟩
 ·exact x a u r
 ·obtain ⟨_,q⟩:=x a _ r
  exact q
def Mut:Option HO->Prop
 | some (.lst _)=>True
 | some (.dK _)=>True
 | some (.dT _)=>True
 | some (.set _ _)=>True
 | some (.ins _ _ _)=>True
 | some (.ext _)=>True
 | _=>False
section
variable {P:Program} {w:World} {H:Hp} {h h':Heap} {x e:Addr} {o':HO}
theorem HOk.write (ok:HOk P w H h) (mu:Mut (H x)) (he:e=x\/H e=some (.own x)) (k:∀b u,b≠e->h.get? b=some u->h'.get? b=some u) (heo:∃u,h'.get? e=some u)
  (new:a3G P w (upd H x o') h' x o'):HOk P w (upd H x o') h':=fun b u q=>by
 have nown:∀c y,H c=some (.own y)->c≠x:=fun c y r z=>by subst z;rw [r] at mu;exact mu
 have ntup:∀c xs,H c=some (.tup xs)->c≠x:=fun c xs r z=>by subst z;rw [r] at mu;exact mu
 have nfrz:∀c ob u,H c=some (.frz ob u)->c≠x:=fun c ob u r z=>by subst z;rw [r] at mu;exact mu
 by_cases hb:b=x
 ·subst hb;rw [a0W] at q;cases q;exact new
 ·rw [a0S hb] at q
  by_cases hbe:b=e
  ·have q':H b=some (.own x):=by
    rcases he with z|z
    ·exact absurd (hbe.trans z) hb
    ·rw [hbe];exact z
   rw [q] at q';cases q'
   obtain ⟨v,hv⟩:=heo
   exact ⟨v,by rw [hbe];exact hv⟩
  ·refine (ok b u q).stay (fun c v hc r=>k c v ?_ r) (fun c r=>by rw [a0S (nown c b r)];exact r) (fun c xs r=>by rw [a0S (ntup c xs r)];exact r) fun c ob v r=>by rw [a0S (nfrz c ob v r)];exact r
   rcases hc with rfl|hc
   ·exact hbe
   ·rintro rfl
    rcases he with z|z
    ·exact nown c b hc z
    ·rw [hc] at z;cases z;exact hb rfl
end
structure Un (fs ex:List Addr) (H H':Hp) (h h':Heap):Prop where
 keep:∀b o,h.get? b=some o->H b=none->b∉fs->b∉ex->h'.get? b=some o
 slot:∀b o,h.get? b=some o->H b=none->b∈fs->b∉ex->∃sl,h'.get? b=some { o with slots:=sl }
 free:∀b o,h.get? b=some o->H b=none->b∉ex->H' b=none
 there:∀b o,h.get? b=some o->b∉ex->∃o',h'.get? b=some o'
 tups:∀b xs,H b=some (.tup xs)->H' b=some (.tup xs)
 frzs:∀b o u,H b=some (.frz o u)->H' b=some (.frz o u)
 tbls:∀b ps,H b=some (.tbl ps)->∃more,H' b=some (.tbl (ps++more))
section
variable {fs fs' ex ex':List Addr} {H H1 H2:Hp} {h h1 h2 h':Heap} {a x e:Addr} {o:HO}
theorem Un.any (u:Un fs ex H H1 h h1) {b:Addr} {ob:Obj} (q:h.get? b=some ob) (n:H b=none) (hx:b∉ex):∃sl,h1.get? b=some { ob with slots:=sl }:=by
 by_cases hb:b∈fs
 ·exact u.slot b ob q n hb hx
 ·exact ⟨ob.slots,u.keep b ob q n hb hx⟩
theorem Un.kept (k:∀b u,h.get? b=some u->h'.get? b=some u):Un fs ex H H h h':=
 ⟨fun b ob q _ _ _=>k b ob q,fun b ob q _ _ _=>⟨ob.slots,k b ob q⟩,fun _ _ _ n _=>n,fun b ob q _=>⟨ob,k b ob q⟩,fun _ _ q=>q,fun _ _ _ q=>q,fun _ ps q=>⟨#[],by rw [q];simp⟩⟩
theorem Un.refl:Un fs ex H H h h:=Un.kept fun _ _ q=>q
theorem Un.laid (k:∀b u,h.get? b=some u->h'.get? b=some u) (hp:h.objs.size<=a) (hn:H a=none):Un fs ex H (upd H a o) h h' where
 keep:=fun b u q _ _ _=>k b u q
 slot:=fun b u q _ _ _=>⟨u.slots,k b u q⟩
 free:=fun b u q n _=>by rw [a0S (ne_of_lt (lt_of_lt_of_le (lt_size q) hp))];exact n
 there:=fun b u q _=>⟨u,k b u q⟩
 tups:=fun b xs q=>by rw [a0S (a0O q hn)];exact q
 frzs:=fun b u xs q=>by rw [a0S (a0O q hn)];exact q
 tbls:=fun b ps q=>⟨#[],by rw [a0S (a0O q hn),q];simp⟩
theorem Un.write (mu:Mut (H x)) (he:e=x\/H e=some (.own x)) (k:∀b u,b≠e->h.get? b=some u->h'.get? b=some u) (heo:∃u,h'.get? e=some u):Un fs ex H (upd H x o) h h':=by
 have hx:∀b,H b=none->b≠x:=fun b n z=>by subst z;rw [n] at mu;exact mu
 have hb:∀b,H b=none->b≠e:=fun b n z=>by
  subst z
  rcases he with r|r
  ·exact hx b n r
  ·rw [n] at r;cases r
 have hm:∀b u,H b=some u->¬Mut (some u)->b≠x:=fun b u q nm z=>by subst z;rw [q] at mu;exact nm mu
 refine ⟨fun b u q n _ _=>k b u (hb b n) q,fun b u q n _ _=>⟨u.slots,k b u (hb b n) q⟩,fun b u q n _=>by rw [a0S (hx b n)];exact n,fun b u q _=>?_,
  fun b xs q=>by rw [a0S (hm b _ q fun z=>z)];exact q,fun b u xs q=>by rw [a0S (hm b _ q fun z=>z)];exact q,fun b ps q=>⟨#[],by rw [a0S (hm b _ q fun z=>z),q];simp⟩⟩
 by_cases hbe:b=e
 ·subst hbe;exact heo
 ·exact ⟨u,k b u hbe q⟩
end
def trk (h:Heap) (H:Hp):List Addr:=(List.range h.objs.size).filter fun a=>(H a).isSome
def hidT (h:Heap) (H:Hp):Heap:=PySem.W.hideAll h (trk h H)
theorem b5l (h:Heap) (H:Hp):(hidT h H).objs.size=h.objs.size:=PySem.W.hideAll_size _ _
theorem hidT_get {h:Heap} {H:Hp} {b:Addr} {o:Obj} (e:h.get? b=some o) (n:H b=none):(hidT h H).get? b=some o:=
 PySem.W.hideAll_get _ e fun hm=>by
  have q:(H b).isSome=true:=(mem_filter.mp hm).2
  rw [n] at q;simp at q
theorem of_hidT {h:Heap} {H:Hp} {b:Addr} {o:Obj} (e:(hidT h H).get? b=some o):h.get? b=some o/\H b=none:=by
 have e':h.get? b=some o:=PySem.W.of_hideAll (trk h H) e
 refine ⟨e',?_⟩
 cases q:H b with
 | none=>rfl
 | some x=>
  have hm:b∈trk h H:=mem_filter.mpr ⟨mem_range.mpr (lt_size e'),by simp [q]⟩
  have z:(hidT h H).get? b=none:=PySem.W.hideAll_none (trk h H) hm
  rw [z] at e;cases e
def allNews (g h:Heap) (L:Addr):List (Addr×Obj):=(List.range h.objs.size).filterMap fun a=>if a=L\/(g.get? a).isSome=true then none else (h.get? a).map fun o=>(a,o)
def rest (g h:Heap) (L d:Addr):List (Addr×Obj):=(allNews g h L).filter fun p=>decide (p.1≠d)
structure Mod (K:Frag) (mg:Str->Option Value) (base:Heap):Prop where
 kin:K.In base
 glob:base.Ns mainGlobals mg
 blt:∃mb,base.Ns builtinsNs mb/\∀x:Str,x ≠ "__name__" -> mb x=bootBuiltins x
 nolimit:base.NoLimit
structure Cx where
 prog:Program
 w:World
 K:Frag
 mg:Str->Option Value
 base:Heap
 A:Around
 N:List Str
 s₀:Shared
 H₀:Hp
 env:Env
 outer:List Env
 stack:List Env
 ex:List Addr
 fn:Str->Bool
 calm:Bool
 pn:List (Addr×Obj)
 xe:Value->Shared->Prop
def frs (l:List Env):List Addr:=l.filterMap (·.frame)
abbrev Cx.fs (X:Cx):List Addr:=frs X.outer
def Vis (sc:Scope) (x:Str):Prop:=sc.names.lookup x=some .local\/sc.names.lookup x=some .cell\/sc.names.lookup x=some .free
def Loc (sc:Scope) (x:Str):Prop:=sc.names.lookup x=some .local\/sc.names.lookup x=some .cell
def Look (env:Env) (h:Heap) (m:Str->Option Value) (x:Str) (u:Value):Prop:=
 (env.kindOf x=some .local/\m x=some u)\/((env.kindOf x=some .cell\/env.kindOf x=some .free)/\∃c,env.cells.lookup x=some c/\h.IsCell c (some u))
structure Cx.Ok (X:Cx):Prop where
 mod:Mod X.K X.mg X.base
 kind:X.env.scope.kind=.function
 glob:X.env.globals=mainGlobals
 blt:X.env.builtins=builtinsNs
 above:X.s₀.heap.objs.size<=X.env.locals
 inj:∀x y c,X.env.cells.lookup x=some c->X.env.cells.lookup y=some c->x=y
 has:∀x,(X.env.kindOf x=some .cell\/X.env.kindOf x=some .free)->∃c,X.env.cells.lookup x=some c
 cab:∀x c,X.fn x=true->X.env.cells.lookup x=some c->X.s₀.heap.objs.size<=c
 hd:X.calm=true->X.A.handled=none
 frames:X.A.frames=some X.stack
 stk:X.stack=X.outer\/(X.stack=X.env::X.outer/\X.env.frame=some X.env.locals)
 exf:∀b∈X.ex,b≠X.env.locals/\∀x c,X.env.cells.lookup x=some c->c≠b
 bs:∀b o,X.base.get? b=some o->X.s₀.heap.get? b=some o/\X.H₀ b=none
 bsz:X.base.objs.size<=X.s₀.heap.objs.size
 noex:∀b o,X.base.get? b=some o->b∉X.ex
 exfs:∀b∈X.ex,b∉X.fs
 funs:X.s₀.heap.FunFrames X.base X.outer
 frf:∀b∈X.fs,X.H₀ b=none
structure Inv (X:Cx) (pins:List (Addr×Obj)) (σ:List (Option V)) (H:Hp) (s:Shared):Prop where
 ok:X.Ok
 os:s.os=X.s₀.os
 bare:AllBare s.gens
 base:Un X.fs X.ex X.H₀ H X.s₀.heap s.heap
 loc:∃m,s.heap.Ns X.env.locals m/\∀(i:Nat) (x:Str) (v:V),X.N[i]?=some x->σ[i]?=some (some v)->Vis X.env.scope x->∃u,RelV v u/\Look X.env s.heap m x u
 cell:∀x c,X.env.cells.lookup x=some c->∃v,s.heap.IsCell c v
 free:H X.env.locals=none
 freeC:∀x c,X.env.cells.lookup x=some c->H c=none
 pin:∀p∈X.pn++pins,s.heap.get? p.1=some p.2/\H p.1=none/\p.1≠X.env.locals/\p.1∉X.fs/\∀v,p.2.data≠.cell v
 hok:HOk X.prog X.w H s.heap
 len:σ.length=X.N.length
section
variable {X:Cx} {pins:List (Addr×Obj)} {σ:List (Option V)} {H H':Hp} {s:Shared} {h':Heap}
theorem Cx.Ok.nofr (ok:X.Ok) {b:Addr} {o:Obj} (e:X.base.get? b=some o):b∉X.fs:=fun hb=>by
 have:=(ok.funs.mem hb).1
 rw [e] at this;cases this
theorem Inv.bs (I:Inv X pins σ H s):∀b o,X.base.get? b=some o->s.heap.get? b=some o/\H b=none:=fun b o e=>
 ⟨I.base.keep b o (I.ok.bs b o e).1 (I.ok.bs b o e).2 (I.ok.nofr e) (I.ok.noex b o e),I.base.free b o (I.ok.bs b o e).1 (I.ok.bs b o e).2 (I.ok.noex b o e)⟩
theorem Inv.bk (I:Inv X pins σ H s):∀b o,X.base.get? b=some o->s.heap.get? b=some o:=fun b o e=>(I.bs b o e).1
theorem Inv.mod (I:Inv X pins σ H s):Mod X.K X.mg X.base:=I.ok.mod
theorem Inv.kIn (I:Inv X pins σ H s):X.K.In s.heap:=I.ok.mod.kin.keeps I.bk
theorem Inv.lt (I:Inv X pins σ H s):X.env.locals<s.heap.objs.size:=let ⟨_,hn,_⟩:=I.loc;hn.lt
theorem Inv.sz (I:Inv X pins σ H s):X.s₀.heap.objs.size<=s.heap.objs.size:=le_trans I.ok.above (le_of_lt I.lt)
theorem Inv.nofs (I:Inv X pins σ H s) {a:Addr} (h:s.heap.objs.size<=a):a∉X.fs:=fun hb=>by
 obtain ⟨_,o,ho,_⟩:=I.ok.funs.mem hb
 exact absurd (lt_of_lt_of_le (lt_size ho) (le_trans I.sz h)) (lt_irrefl _)
theorem Inv.cne (I:Inv X pins σ H s):∀x c,X.env.cells.lookup x=some c->c≠X.env.locals:=fun x c e z=>by
 obtain ⟨v,o,ho,hd⟩:=I.cell x c e
 obtain ⟨m,⟨o',es,ep,ho',hd',_⟩,_⟩:=I.loc
 rw [z,ho'] at ho;cases ho;rw [hd'] at hd;cases hd
theorem Inv.funs (I:Inv X pins σ H s):s.heap.FunFrames X.base X.outer:=by
 have all:∀(l:List Env),(∀b∈frs l,b∈X.fs)->X.s₀.heap.FunFrames X.base l->s.heap.FunFrames X.base l:=by
  intro l
  induction l with
  | nil=>intro _ _;trivial
  | cons env r ih=>
   intro hs hl
   obtain ⟨hk,⟨L,o,hf,hn,ho,hd⟩,hr⟩:=hl
   have hL:L∈X.fs:=hs L (by unfold frs;rw [filterMap_cons,hf];exact mem_cons_self)
   obtain ⟨sl,e⟩:=I.base.slot L o ho (I.ok.frf L hL) hL fun z=>I.ok.exfs L z hL
   exact ⟨hk,⟨L,_,hf,hn,e,hd⟩,ih (fun b hb=>hs b (by unfold frs;rw [filterMap_cons,hf];exact mem_cons_of_mem _ hb)) hr⟩
 exact all X.outer (fun _ hb=>hb) I.ok.funs
theorem Inv.stack (I:Inv X pins σ H s):s.heap.FunFrames X.base X.stack:=by
 rcases I.ok.stk with e|⟨e,hf⟩
 ·rw [e];exact I.funs
 ·rw [e]
  obtain ⟨m,hn,_⟩:=I.loc
  refine .cons (by rw [I.ok.kind];decide) hf hn ?_ I.funs
  exact Heap.get?_none_of_le (le_trans I.ok.bsz I.ok.above)
theorem Inv.stkSub (I:Inv X pins σ H s):∀b∈frs X.stack,b∈X.env.locals::X.fs:=fun b hb=>by
 rcases I.ok.stk with e|⟨e,hf⟩
 ·rw [e] at hb;exact mem_cons_of_mem _ hb
 ·rw [e] at hb
  unfold frs at hb
  rw [filterMap_cons,hf] at hb
  exact hb
theorem Inv.stkFree (I:Inv X pins σ H s):∀b∈frs X.stack,H b=none:=fun b hb=>by
 rcases mem_cons.mp (I.stkSub b hb) with e|hb
 ·rw [e];exact I.free
 ·obtain ⟨_,o,ho,_⟩:=I.ok.funs.mem hb
  exact I.base.free b o ho (I.ok.frf b hb) fun z=>I.ok.exfs b z hb
theorem Inv.step {g':Array GenState} {t':Nat} {d':Drawn} {ch:List Addr} (I:Inv X pins σ H s)
  (hch:∀b∈ch,(b∈X.ex\/X.s₀.heap.objs.size<=b)/\b≠X.env.locals/\(∀x c,X.env.cells.lookup x=some c->c≠b)/\∀p∈X.pn++pins,p.1≠b)
  (keep:∀b o,b≠X.env.locals->b∉X.fs->b∉ch->s.heap.get? b=some o->H b=none->h'.get? b=some o)
  (slot:∀b o,b≠X.env.locals->b∈X.fs->b∉ch->s.heap.get? b=some o->H b=none->∃sl,h'.get? b=some { o with slots:=sl }) (free:∀b o,b∉ch->s.heap.get? b=some o->H b=none->H' b=none)
  (there:∀b o,b∉ch->s.heap.get? b=some o->∃o',h'.get? b=some o')
  (tups:∀b xs,H b=some (.tup xs)->H' b=some (.tup xs)) (frzs:∀b o u,H b=some (.frz o u)->H' b=some (.frz o u)) (tbls:∀b ps,H b=some (.tbl ps)->∃more,H' b=some (.tbl (ps++more)))
  (ns:∀m,s.heap.Ns X.env.locals m->h'.Ns X.env.locals m) (hok:HOk X.prog X.w H' h') (hg:AllBare g'):
  Inv X pins σ H' { s with heap:=h',gens:=g',drawn:=d',toks:=t' }:=by
 have neL:∀b o,X.s₀.heap.get? b=some o->b≠X.env.locals:=fun b o e=>ne_of_lt (lt_of_lt_of_le (lt_size e) I.ok.above)
 have neC:∀b o,X.s₀.heap.get? b=some o->b∉X.ex->b∉ch:=fun b o e hx hb=>by
  rcases (hch b hb).1 with z|z
  ·exact hx z
  ·exact absurd (lt_of_lt_of_le (lt_size e) z) (lt_irrefl _)
 have cellK:∀x c,X.env.cells.lookup x=some c->∀v,s.heap.IsCell c v->h'.IsCell c v:=fun x c e v ⟨o,ho,hd⟩=>by
  have nch:c∉ch:=fun z=>(hch c z).2.2.1 x c e rfl
  by_cases hc:c∈X.fs
  ·obtain ⟨sl,q⟩:=slot c o (I.cne x c e) hc nch ho (I.freeC x c e)
   exact ⟨_,q,hd⟩
  ·exact ⟨o,keep c o (I.cne x c e) hc nch ho (I.freeC x c e),hd⟩
 refine ⟨I.ok,I.os,hg,⟨fun b o e n hb hx=>?_,fun b o e n hb hx=>?_,fun b o e n hx=>?_,fun b o e hx=>?_,fun b xs e=>tups b xs (I.base.tups b xs e),fun b o xs e=>frzs b o xs (I.base.frzs b o xs e),fun b ps e=>?_⟩,?_,fun x c e=>?_,?_,fun x c e=>?_,fun p hp=>?_,hok,I.len⟩
 ·exact keep b o (neL b o e) hb (neC b o e hx) (I.base.keep b o e n hb hx) (I.base.free b o e n hx)
 ·obtain ⟨sl,e1⟩:=I.base.slot b o e n hb hx
  obtain ⟨sl',e2⟩:=slot b _ (neL b o e) hb (neC b o e hx) e1 (I.base.free b o e n hx)
  exact ⟨sl',e2⟩
 ·obtain ⟨o',e1⟩:=I.base.there b o e hx
  exact free b o' (neC b o e hx) e1 (I.base.free b o e n hx)
 ·obtain ⟨o',e1⟩:=I.base.there b o e hx
  exact there b o' (neC b o e hx) e1
 ·obtain ⟨m1,e1⟩:=I.base.tbls b ps e
  obtain ⟨m2,e2⟩:=tbls b _ e1
  exact ⟨m1++m2,by rw [e2,Array.append_assoc]⟩
 ·obtain ⟨m,hn,hl⟩:=I.loc
  refine ⟨m,ns m hn,fun i x v e1 e2 e3=>?_⟩
  obtain ⟨u,r,l⟩:=hl i x v e1 e2 e3
  refine ⟨u,r,?_⟩
  rcases l with l|⟨k,c,e,z⟩
  ·exact .inl l
  ·exact .inr ⟨k,c,e,cellK x c e _ z⟩
 ·obtain ⟨v,z⟩:=I.cell x c e
  exact ⟨v,cellK x c e v z⟩
 ·obtain ⟨m,⟨o,_,_,ho,_⟩,_⟩:=I.loc
  exact free _ o (fun z=>(hch _ z).2.1 rfl) ho I.free
 ·obtain ⟨v,o,ho,hd⟩:=I.cell x c e
  exact free c o (fun z=>(hch c z).2.2.1 x c e rfl) ho (I.freeC x c e)
 ·obtain ⟨e,n,ne,nf,d⟩:=I.pin p hp
  have nch:p.1∉ch:=fun z=>(hch p.1 z).2.2.2 p hp rfl
  exact ⟨keep p.1 p.2 ne nf nch e n,free p.1 p.2 nch e n,ne,nf,d⟩
theorem Inv.un {t':Nat} (I:Inv X pins σ H s) (u:Un X.fs [] H H' s.heap h') (hok:HOk X.prog X.w H' h'):Inv X pins σ H' { s with heap:=h',toks:=t' }:=by
 obtain ⟨m,⟨o,es,ep,ho,r⟩,_⟩:=id I.loc
 obtain ⟨sl,hL⟩:=u.any ho I.free (by simp)
 exact I.step (g':=s.gens) (d':=s.drawn) (ch:=[]) (fun _ z=>nomatch z) (fun b o _ hb _ e n=>u.keep b o e n hb (by simp)) (fun b o _ hb _ e n=>u.slot b o e n hb (by simp)) (fun b o _ e n=>u.free b o e n (by simp)) (fun b o _ e=>u.there b o e (by simp)) u.tups u.frzs u.tbls (fun m' hm=>by
  obtain ⟨o',es',ep',ho',r'⟩:=hm
  rw [ho] at ho';cases ho'
  exact ⟨_,es',ep',hL,r'⟩) hok I.bare
theorem Inv.call {g':Array GenState} {t':Nat} {d':Drawn} {ch:List Addr} (I:Inv X pins σ H s) (u:Un (frs X.stack) ch H H' s.heap h') (hok:HOk X.prog X.w H' h') (hg:AllBare g')
  (hch:∀b∈ch,(b∈X.ex\/X.s₀.heap.objs.size<=b)/\b≠X.env.locals/\(∀x c,X.env.cells.lookup x=some c->c≠b)/\∀p∈X.pn++pins,p.1≠b):
  Inv X pins σ H' { s with heap:=h',gens:=g',drawn:=d',toks:=t' }:=by
 obtain ⟨m,⟨o,es,ep,ho,r⟩,_⟩:=id I.loc
 obtain ⟨sl,hL⟩:=u.any ho I.free fun z=>(hch _ z).2.1 rfl
 exact I.step (ch:=ch) hch (fun b o hL hb hc e n=>u.keep b o e n (fun z=>(mem_cons.mp (I.stkSub b z)).elim hL hb) hc) (fun b o _ _ hc e n=>u.any e n hc) (fun b o hc e n=>u.free b o e n hc) (fun b o hc e=>u.there b o e hc) u.tups u.frzs u.tbls (fun m' hm=>by
  obtain ⟨o',es',ep',ho',r'⟩:=hm
  rw [ho] at ho';cases ho'
  exact ⟨_,es',ep',hL,r'⟩) hok hg
theorem Inv.turned {t':Nat} {it:Addr} (I:Inv X pins σ H s) (k:∀b o,b≠it->s.heap.get? b=some o->h'.get? b=some o) (hn:H it=none) (hL:it≠X.env.locals)
  (h1:it∈X.ex\/X.s₀.heap.objs.size<=it) (h2:∀x c,X.env.cells.lookup x=some c->c≠it) (h3:∀p∈X.pn++pins,p.1≠it):Inv X pins σ H { s with heap:=h',toks:=t' }:=by
 have nit:∀b u,H b=some u->b≠it:=fun b u e z=>by rw [z,hn] at e;cases e
 refine I.step (g':=s.gens) (d':=s.drawn) (ch:=[it]) (fun b hb=>?_) (fun b o _ _ hc e _=>k b o (fun z=>hc (by simp [z])) e) (fun b o _ _ hc e _=>⟨o.slots,k b o (fun z=>hc (by simp [z])) e⟩) (fun _ _ _ _ n=>n)
  (fun b o hc e=>⟨o,k b o (fun z=>hc (by simp [z])) e⟩) (fun _ _ e=>e) (fun _ _ _ e=>e) (fun b ps e=>⟨#[],by rw [e];simp⟩) (fun m hm=>?_) (fun b u e=>?_) I.bare
 ·have e:b=it:=by simpa using hb
  subst e
  exact ⟨h1,hL,h2,h3⟩
 ·obtain ⟨o,es,ep,ho,r⟩:=hm
  exact ⟨o,es,ep,k _ o (Ne.symm hL) ho,r⟩
 ·refine (I.hok b u e).stay (fun c v hc q=>k c v ?_ q) (fun _ q=>q) (fun _ _ q=>q) fun _ _ _ q=>q
  rcases hc with z|z
  ·rw [z];exact nit b u e
  ·exact nit c _ z
theorem Inv.tok (I:Inv X pins σ H s) (t:Nat):Inv X pins σ H { s with toks:=t }:=I.un (h':=s.heap) (t':=t) Un.refl I.hok
theorem Inv.kept {t':Nat} (I:Inv X pins σ H s) (k:∀b u,s.heap.get? b=some u->h'.get? b=some u):Inv X pins σ H { s with heap:=h',toks:=t' }:=I.un (Un.kept k) (I.hok.kept k)
theorem Inv.laid {a:Addr} {o:HO} {t':Nat} (I:Inv X pins σ H s) (k:∀b u,s.heap.get? b=some u->h'.get? b=some u) (hp:s.heap.objs.size<=a) (new:a3G X.prog X.w (upd H a o) h' a o):
  Inv X pins σ (upd H a o) { s with heap:=h',toks:=t' }:=I.un (Un.laid k hp (I.hok.fresh hp)) (I.hok.laid k hp new)
theorem Inv.write {x e:Addr} {o:HO} {t':Nat} (I:Inv X pins σ H s) (mu:Mut (H x)) (he:e=x\/H e=some (.own x)) (k:∀b u,b≠e->s.heap.get? b=some u->h'.get? b=some u) (heo:∃u,h'.get? e=some u)
  (new:a3G X.prog X.w (upd H x o) h' x o):Inv X pins σ (upd H x o) { s with heap:=h',toks:=t' }:=I.un (Un.write mu he k heo) (I.hok.write mu he k heo new)
theorem Inv.pins_of {pins':List (Addr×Obj)} (I:Inv X pins σ H s) (h:∀p∈pins',s.heap.get? p.1=some p.2/\H p.1=none/\p.1≠X.env.locals/\p.1∉X.fs/\∀v,p.2.data≠.cell v):Inv X pins' σ H s:=
 ⟨I.ok,I.os,I.bare,I.base,I.loc,I.cell,I.free,I.freeC,fun p hp=>(mem_append.mp hp).elim (fun z=>I.pin p (mem_append_left _ z)) (h p),I.hok,I.len⟩
theorem b11 {N:List Str} (hN:N.Nodup) {i j:Nat} {x:Str} (a:N[i]?=some x) (b:N[j]?=some x):i=j:=by
 obtain ⟨h1,e1⟩:=List.getElem?_eq_some_iff.mp a
 obtain ⟨h2,e2⟩:=List.getElem?_eq_some_iff.mp b
 exact (List.getElem_inj hN).mp (e1.trans e2.symm)
theorem a9t {M:Model} {A:Around} {E:Value->Shared->Prop} {i:Nat} {x:Str} {v:V} {u:Value} {Q:Unit->Shared->Prop} (I:Inv X pins σ H s) (hN:X.N.Nodup) (hi:X.N[i]?=some x) (hx:Loc X.env.scope x) (r:RelV v u)
  (h:∀s',Inv X pins (σ.set i (some v)) H s'->(∃a,Heap.SameBut a s.heap s'.heap/\(a=X.env.locals\/X.env.cells.lookup x=some a))->Q () s') (hf:X.fn x=true\/X.env.scope.names.lookup x=some .local:=by first|exact .inl rfl|exact .inr rfl|assumption):wpAny M A (storeName X.env x u) Q E s:=by
 obtain ⟨m,hn,hl⟩:=id I.loc
 have hcls:(X.env.scope.kind == .class || (X.env.scope.kind == .module && X.env.locals != X.env.globals))=false:=by rw [I.ok.kind];rfl
 have hiσ:i<σ.length:=by rw [I.len];exact (List.getElem?_eq_some_iff.mp hi).1
 have cne:=I.cne
 have tracked:∀{a:Addr} {h':Heap},(∃o,s.heap.get? a=some o/\H a=none)->Heap.SameBut a s.heap h'->HOk X.prog X.w H h':=fun {a h'} ha hs b ob e=>by
  obtain ⟨_,_,hfree⟩:=ha
  refine (I.hok b ob e).stay (fun c w' hc q=>(hs.2 c ?_).trans q) (fun _ q=>q) (fun _ _ q=>q) fun _ _ _ q=>q
  rintro rfl
  rcases hc with rfl|hc
  ·rw [hfree] at e;cases e
  ·rw [hfree] at hc;cases hc
 rcases hx with hk|hk
 ·refine wpAny_storeName_local hk hn (fun h' hn' hs=>?_) hcls
  obtain ⟨oL,_,_,hoL,_⟩:=id hn
  refine h _ ⟨I.ok,I.os,I.bare,⟨fun b o e n hb hx=>?_,fun b o e n hb hx=>?_,I.base.free,fun b o e hx=>?_,I.base.tups,I.base.frzs,I.base.tbls⟩,⟨_,hn',fun j y v' e1 e2 e3=>?_⟩,fun y c e=>?_,I.free,I.freeC,fun p hp=>?_,tracked ⟨oL,hoL,I.free⟩ hs,by simpa using I.len⟩ ⟨_,hs,.inl rfl⟩
  ·exact (hs.2 b (ne_of_lt (lt_of_lt_of_le (lt_size e) I.ok.above))).trans (I.base.keep b o e n hb hx)
  ·obtain ⟨sl,e1⟩:=I.base.slot b o e n hb hx
   exact ⟨sl,(hs.2 b (ne_of_lt (lt_of_lt_of_le (lt_size e) I.ok.above))).trans e1⟩
  ·obtain ⟨o',e1⟩:=I.base.there b o e hx
   exact ⟨o',(hs.2 b (ne_of_lt (lt_of_lt_of_le (lt_size e) I.ok.above))).trans e1⟩
  ·by_cases hj:j=i
   ·subst hj
    rw [hi] at e1;cases e1
    rw [getElem?_set_self hiσ] at e2
    cases e2
    exact ⟨u,r,.inl ⟨hk,by simp⟩⟩
   ·rw [getElem?_set_ne (Ne.symm hj)] at e2
    obtain ⟨u',r',q⟩:=hl j y v' e1 e2 e3
    refine ⟨u',r',?_⟩
    rcases q with ⟨k,e⟩|⟨k,c,e,z⟩
    ·refine .inl ⟨k,?_⟩
     have:y≠x:=fun e=>hj (b11 hN e1 (e▸hi))
     simp [this,e]
    ·exact .inr ⟨k,c,e,z.sameBut hs (cne y c e)⟩
  ·obtain ⟨w',z⟩:=I.cell y c e
   exact ⟨w',z.sameBut hs (cne y c e)⟩
  ·obtain ⟨e,n,ne,nf,d⟩:=I.pin p hp
   exact ⟨(hs.2 p.1 ne).trans e,n,ne,nf,d⟩
 ·have hfn:X.fn x=true:=by
   rcases hf with z|z
   ·exact z
   ·rw [z] at hk;cases hk
  obtain ⟨c,hc⟩:=I.ok.has x (.inl hk)
  obtain ⟨w',z⟩:=I.cell x c hc
  refine wpAny_storeName_cell I.ok.kind hk hc z (fun h' hc' hs=>?_)
  obtain ⟨oc,hoc,hocd⟩:=id z
  refine h { s with heap:=h' } ⟨I.ok,I.os,I.bare,⟨fun b o e n hb hx=>?_,fun b o e n hb hx=>?_,I.base.free,fun b o e hx=>?_,I.base.tups,I.base.frzs,I.base.tbls⟩,⟨m,hn.sameBut hs (Ne.symm (cne x c hc)),fun j y v' e1 e2 e3=>?_⟩,fun y c' e=>?_,I.free,I.freeC,fun p hp=>?_,tracked ⟨oc,hoc,I.freeC x c hc⟩ hs,by simpa using I.len⟩ ⟨c,hs,.inr hc⟩
  ·exact (hs.2 b (ne_of_lt (lt_of_lt_of_le (lt_size e) (I.ok.cab x c hfn hc)))).trans (I.base.keep b o e n hb hx)
  ·obtain ⟨sl,e1⟩:=I.base.slot b o e n hb hx
   exact ⟨sl,(hs.2 b (ne_of_lt (lt_of_lt_of_le (lt_size e) (I.ok.cab x c hfn hc)))).trans e1⟩
  ·obtain ⟨o',e1⟩:=I.base.there b o e hx
   exact ⟨o',(hs.2 b (ne_of_lt (lt_of_lt_of_le (lt_size e) (I.ok.cab x c hfn hc)))).trans e1⟩
  ·by_cases hj:j=i
   ·subst hj
    rw [hi] at e1;cases e1
    rw [getElem?_set_self hiσ] at e2
    cases e2
    exact ⟨u,r,.inr ⟨.inl hk,c,hc,hc'⟩⟩
   ·rw [getElem?_set_ne (Ne.symm hj)] at e2
    obtain ⟨u',r',q⟩:=hl j y v' e1 e2 e3
    refine ⟨u',r',?_⟩
    rcases q with q|⟨k,c',e,z'⟩
    ·exact .inl q
    ·refine .inr ⟨k,c',e,z'.sameBut hs ?_⟩
     rintro rfl
     exact hj (b11 hN e1 (I.ok.inj _ _ _ e hc▸hi))
  ·by_cases hcc:c'=c
   ·subst hcc;exact ⟨_,hc'⟩
   ·obtain ⟨w2,z2⟩:=I.cell y c' e
    exact ⟨w2,z2.sameBut hs hcc⟩
  ·obtain ⟨e,n,ne,nf,d⟩:=I.pin p hp
   refine ⟨(hs.2 p.1 ?_).trans e,n,ne,nf,d⟩
   intro q
   rw [q,hoc] at e
   have q':oc=p.2:=Option.some.inj e
   exact d w' (by rw [←q'];exact hocd)
theorem b1M {M:Model} {A:Around} {E:Value->Shared->Prop} {i:Nat} {x:Str} {v:V} {u:Value} {Q:Unit->Shared->Prop} (I:Inv X pins σ H s) (hN:X.N.Nodup) (hi:X.N[i]?=some x) (hx:Loc X.env.scope x) (r:RelV v u)
  (h:∀s',Inv X pins (σ.set i (some v)) H s'->Q () s') (hf:X.fn x=true\/X.env.scope.names.lookup x=some .local:=by first|exact .inl rfl|exact .inr rfl|assumption):wpAny M A (storeName X.env x u) Q E s:=
 a9t I hN hi hx r (fun s' I' _=>h s' I') hf
theorem Inv.call' {s':Shared} {ch:List Addr} (I:Inv X pins σ H s) (ho:s'.os=s.os) (u:Un (frs X.stack) ch H H' s.heap s'.heap) (hok:HOk X.prog X.w H' s'.heap) (hg:AllBare s'.gens)
  (hch:∀b∈ch,(b∈X.ex\/X.s₀.heap.objs.size<=b)/\b≠X.env.locals/\(∀x c,X.env.cells.lookup x=some c->c≠b)/\∀p∈X.pn++pins,p.1≠b):Inv X pins σ H' s':=by
 obtain ⟨h',g',d',t',o'⟩:=s'
 have e:o'=s.os:=ho
 subst e
 exact I.call (g':=g') (t':=t') (d':=d') u hok hg hch
end
abbrev XK:=Value->Option Addr->Hp->Prop
abbrev St:=List (Option V)
abbrev VK:=V->Hp->Prop
abbrev TE:=St->Hp->VK->Prop
abbrev TT:=St->Hp->(Bool->Hp->Prop)->Prop
abbrev TA:=St->Hp->(List V->Hp->Prop)->Prop
structure Ends where
 nx:St->Hp->Prop
 rt:VK
 bk:St->Hp->Prop:=fun _ _=>False
 ct:St->Hp->Prop:=fun _ _=>False
abbrev TS:=Ends->St->Hp->Prop
def EP (X:Cx) (pins:List (Addr×Obj)) (σ:St) (Q:VK) (u:Value) (s':Shared):Prop:=∃v H',Inv X pins σ H' s'/\RelV v u/\Q v H'
def TP (X:Cx) (pins:List (Addr×Obj)) (σ:St) (Q:Bool->Hp->Prop) (b:Bool) (s':Shared):Prop:=∃H',Inv X pins σ H' s'/\Q b H'
def AP (X:Cx) (pins:List (Addr×Obj)) (σ:St) (Q:List V->Hp->Prop) (us:List Value) (s':Shared):Prop:=∃vs H',Inv X pins σ H' s'/\Vals vs us/\Q vs H'
def SP (X:Cx) (pins:List (Addr×Obj)) (D:Ends) (f:Flow) (s':Shared):Prop:=
 match f with
 | .next=>∃σ' H',Inv X pins σ' H' s'/\D.nx σ' H'
 | .brk=>∃σ' H',Inv X pins σ' H' s'/\D.bk σ' H'
 | .cont=>∃σ' H',Inv X pins σ' H' s'/\D.ct σ' H'
 | .ret u=>∃v σ' H',Inv X pins σ' H' s'/\RelV v u/\D.rt v H'
def PE (X:Cx) (e:Expr) (t:TE):Prop:=
 ∀(pins:List (Addr×Obj)) (s:Shared) (σ:St) (H:Hp) (Q:VK),Inv X pins σ H s->t σ H Q->wpAny (model X.prog X.w) X.A (eval e X.env) (EP X pins σ Q) X.xe s
def PT (X:Cx) (e:Expr) (t:TT):Prop:=
 ∀(pins:List (Addr×Obj)) (s:Shared) (σ:St) (H:Hp) (Q:Bool->Hp->Prop),Inv X pins σ H s->t σ H Q->wpAny (model X.prog X.w) X.A (isTrue e X.env (eval e X.env)) (TP X pins σ Q) X.xe s
def PW (X:Cx) (e:Expr) (t:TT):Prop:=
 ∀(whole:Sem Value) (pins:List (Addr×Obj)) (s:Shared) (σ:St) (H:Hp) (Q:Bool->Hp->Prop),Inv X pins σ H s->t σ H Q->wpAny (model X.prog X.w) X.A (isTrue e X.env whole) (TP X pins σ Q) X.xe s
theorem PW.pt {X:Cx} {e:Expr} {t:TT} (h:PW X e t):PT X e t:=h _
def PA (X:Cx) (es:List Expr) (t:TA):Prop:=
 ∀(pos:Pos) (pins:List (Addr×Obj)) (s:Shared) (σ:St) (H:Hp) (Q:List V->Hp->Prop),Inv X pins σ H s->t σ H Q->wpAny (model X.prog X.w) X.A (spliced (backTo pos (starEach es X.env))) (AP X pins σ Q) X.xe s
def PS (X:Cx) (st:Stmt) (t:TS):Prop:=
 ∀(pins:List (Addr×Obj)) (s:Shared) (σ:St) (H:Hp) (D:Ends),Inv X pins σ H s->t D σ H->wpAny (model X.prog X.w) X.A (exec st X.env) (SP X pins D) X.xe s
def PSs (X:Cx) (st:List Stmt) (t:TS):Prop:=
 ∀(pins:List (Addr×Obj)) (s:Shared) (σ:St) (H:Hp) (D:Ends),Inv X pins σ H s->t D σ H->wpAny (model X.prog X.w) X.A (execs st X.env) (SP X pins D) X.xe s
theorem thn {α:Type} {t:Sem α} {Q Q':α->Shared->Prop} {M:Model} {A:Around} {E:Value->Shared->Prop} {s:Shared} (h:wpAny M A t Q E s) (hQ:∀a s,Q a s->Q' a s):wpAny M A t Q' E s:=wpAny_mono h hQ fun _ _ x=>x
section
variable {X:Cx}
def tVar (i:Nat):TE:=fun σ H Q=>∃v,σ[i]?=some (some v)/\Q v H
def tC (v:V):TE:=fun _ H Q=>Q v H
theorem pe_var {i:Nat} {x:Str} {pos:Pos} (hN:X.N[i]?=some x) (hv:Vis X.env.scope x) (hd:(x == ("__debug__" : Str))=false:=by decide) (hcd:(x == ("__classdict__" : Str))=false:=by decide):PE X (.Name x pos) (tVar i):=by
 intro pins s σ H Q I h
 obtain ⟨v,e,h⟩:=h
 obtain ⟨m,hn,hl⟩:=I.loc
 obtain ⟨u,r,l⟩:=hl i x v hN e hv
 have fin:EP X pins σ Q u s:=⟨v,H,I,r,h⟩
 rcases l with ⟨hk,hm⟩|⟨hk,c,hc,hcell⟩
 ·exact wpAny_Name (wpAny_loadName_local I.ok.kind hk hn hm fin) hd
 ·rcases hk with hk|hk
  ·exact wpAny_Name (wpAny_loadName_cell I.ok.kind hk hc hcell fin) hd
  ·exact wpAny_Name (wpAny_loadName_free I.ok.kind hk hc hcell fin hcd) hd
theorem pe_int {i j pos}:PE X (.Constant (.int i) j pos) (tC (.int i)):=fun _ _ _ H _ I h=>wpAny_Constant_int ⟨.int i,H,I.tok _,⟨_,rfl⟩,h⟩
theorem pe_bl {b j pos}:PE X (.Constant (.bool b) j pos) (tC (.bl b)):=fun _ _ _ H _ I h=>Constant_bool ⟨.bl b,H,I,rfl,h⟩
theorem pe_non {j pos}:PE X (.Constant .none j pos) (tC .non):=fun _ _ _ H _ I h=>Constant_none ⟨.non,H,I,rfl,h⟩
theorem pe_str {x j pos}:PE X (.Constant (.str x) j pos) (tC (.str x)):=fun _ _ _ H _ I h=>Calls.Constant_str ⟨.str x,H,I.tok _,⟨_,rfl⟩,h⟩
def Gl (X:Cx) (x:Str):Prop:=X.env.kindOf x=some .globalImplicit
theorem a80 {E:Value->Shared->Prop} {pins:List (Addr×Obj)} {s:Shared} {σ:St} {H:Hp} {x:Str} {u:Value} {pos:Pos} {Q:Value->Shared->Prop} (I:Inv X pins σ H s) (hg:Gl X x) (hm:X.mg x=some u) (h:Q u s)
  (hd:(x == ("__debug__" : Str))=false:=by decide):wpAny (model X.prog X.w) X.A (eval (.Name x pos) X.env) Q E s:=
 Calls.Name_function_global I.ok.kind hg (Calls.loadGlobal_global (by rw [I.ok.glob];exact I.mod.glob.keeps I.bk) hm h) hd
theorem a7t {E:Value->Shared->Prop} {pins:List (Addr×Obj)} {s:Shared} {σ:St} {H:Hp} {x:Str} {u:Value} {pos:Pos} {Q:Value->Shared->Prop} (I:Inv X pins σ H s) (hg:Gl X x) (hm:X.mg x=none) (hv:bootBuiltins x=some u) (h:Q u s)
  (hn:x ≠ "__name__" := by decide) (hd:(x == ("__debug__" : Str))=false:=by decide):wpAny (model X.prog X.w) X.A (eval (.Name x pos) X.env) Q E s:=by
 obtain ⟨mb,h1,h2⟩:=I.mod.blt
 exact Calls.Name_function_global I.ok.kind hg (Calls.loadGlobal_builtin (by rw [I.ok.glob];exact I.mod.glob.keeps I.bk) hm (by rw [I.ok.blt];exact h1.keeps I.bk) ((h2 x hn).trans hv) h) hd
theorem pe_bltn {x:Str} {v:V} {u:Value} {pos:Pos} (hg:Gl X x) (hm:X.mg x=none) (hv:bootBuiltins x=some u) (r:RelV v u) (hn:x ≠ "__name__" := by decide) (hd:(x == ("__debug__" : Str))=false:=by decide):PE X (.Name x pos) (tC v):=
 fun _ _ _ H _ I h=>a7t I hg hm hv ⟨v,H,I,r,h⟩ hn hd
def t2I (ta tb:TE) (k:Int->Int->Hp->Prop):St->Hp->Prop:=fun σ H=>ta σ H fun x H1=>tb σ H1 fun y H2=>∃i j,x=.int i/\y=.int j/\k i j H2
def tAdd (ta tb:TE):TE:=fun σ H Q=>t2I ta tb (fun i j H2=>Q (.int (i+j)) H2) σ H
def tSub (ta tb:TE):TE:=fun σ H Q=>t2I ta tb (fun i j H2=>Q (.int (i - j)) H2) σ H
def tMul (ta tb:TE):TE:=fun σ H Q=>t2I ta tb (fun i j H2=>(-(2 ^ 64)<i/\i<2 ^ 64)/\Q (.int (i * j)) H2) σ H
variable {a b:Expr} {ta tb:TE} {pos:Pos}
def PC (X:Cx) (op:CmpOp) (a b:Expr) (t:TE):Prop:=
 ∀(pins:List (Addr×Obj)) (s:Shared) (σ:St) (H:Hp) (Q:VK),Inv X pins σ H s->t σ H Q->
  wpAny (model X.prog X.w) X.A (eval a X.env) (fun v s₁=>wpAny (model X.prog X.w) X.A (eval b X.env) (fun u s₂=>wpAny (model X.prog X.w) X.A (compareOp op v u) (EP X pins σ Q) X.xe s₂) X.xe s₁) X.xe s
theorem b12 (b:Expr) {op:CmpOp} (h:op≠.In) (h2:op≠.NotIn):behindInMarks op b=false:=by
 have e1:(op == CmpOp.In)=false:=by cases op <;> first|rfl|exact absurd rfl h
 have e2:(op == CmpOp.NotIn)=false:=by cases op <;> first|rfl|exact absurd rfl h2
 cases b <;> simp [behindInMarks,e1,e2]
def tCmp (p:Int->Int->Bool) (ta tb:TE):TE:=fun σ H Q=>t2I ta tb (fun i j H2=>Q (.bl (p i j)) H2) σ H
abbrev tLt:TE->TE->TE:=tCmp fun i j=>decide (i<j)
abbrev tLe:TE->TE->TE:=tCmp fun i j=>decide (i<=j)
abbrev tGt:TE->TE->TE:=tCmp fun i j=>decide (j<i)
abbrev tGe:TE->TE->TE:=tCmp fun i j=>decide (j<=i)
abbrev tEqI:TE->TE->TE:=tCmp fun i j=>decide (i=j)
abbrev tNeI:TE->TE->TE:=tCmp fun i j=>!decide (i=j)
def tIsN (ta:TE):TE:=fun σ H Q=>ta σ H fun x H1=>Q (.bl (decide (x=.non))) H1
def tNotN (ta:TE):TE:=fun σ H Q=>ta σ H fun x H1=>Q (.bl (!decide (x=.non))) H1
theorem RelV.none_iff {x:V} {v:Value} (r:RelV x v):(v == Value.none)=decide (x=.non):=by
 cases x with
 | non=>cases r;rfl
 | bl _=>cases r;rfl
 | int _=>obtain ⟨t,rfl⟩:=r;rfl
 | str _=>obtain ⟨t,rfl⟩:=r;rfl
 | byt _=>obtain ⟨t,rfl⟩:=r;rfl
 | flt _=>obtain ⟨t,rfl⟩:=r;rfl
 | ref _=>cases r;rfl
 | ty _=>cases r;rfl
theorem pc_isN {j pos'} (ha:PE X a ta):PC X .Is a (.Constant .none j pos') (tIsN ta):=by
 intro pins s σ H Q I h
 refine thn (ha pins s σ H _ I h) fun v s1 ⟨x,H1,I1,r1,q1⟩=>?_
 exact Constant_none (is_none_gen ⟨.bl _,H1,I1,by rw [r1.none_iff];rfl,q1⟩)
theorem pc_notN {j pos'} (ha:PE X a ta):PC X .IsNot a (.Constant .none j pos') (tNotN ta):=by
 intro pins s σ H Q I h
 refine thn (ha pins s σ H _ I h) fun v s1 ⟨x,H1,I1,r1,q1⟩=>?_
 exact Constant_none (isnot_none_gen ⟨.bl _,H1,I1,by rw [r1.none_iff];rfl,q1⟩)
def tB (t:TE):TT:=fun σ H Q=>t σ H fun x H1=>∃c,x=.bl c/\Q c H1
theorem pe_cmp {op:CmpOp} {t:TE} (h:PC X op a b t) (h1:behindInMarks op b=false:=by first|exact b12 _ (by decide) (by decide)|rfl):PE X (.Compare a [op] [b] pos) t:=fun pins s σ H Q I hw=>wpAny_Compare1 (h pins s σ H Q I hw) h1
theorem pt_cmp {op:CmpOp} {t:TE} (h:PC X op a b t) (h1:behindInMarks op b=false:=by first|exact b12 _ (by decide) (by decide)|rfl):PT X (.Compare a [op] [b] pos) (tB t):=by
 intro pins s σ H Q I hw
 refine wpAny_isTrue_Compare1 (thn (h pins s σ H _ I hw) fun v s1 h1=>thn h1 fun u s2 h2=>thn h2 fun c s3 ⟨x,H1,I1,r1,q1⟩=>?_) h1
 obtain ⟨d,rfl,q⟩:=q1
 cases r1
 exact wpAny_truthy_bool ⟨H1,I1,q⟩
theorem pt_val {e:Expr} {t:TE} (h:PE X e t) (he:∀whole,isTrue e X.env whole=(do let v ←whole;standAt e.pos;holding [v] (truthy v)):=by intro _;rfl):PT X e (tB t):=by
 intro pins s σ H Q I hw
 refine isTrue_plain (thn (h pins s σ H _ I hw) fun v s1 ⟨x,H1,I1,r1,q1⟩=>?_) (he _)
 obtain ⟨d,rfl,q⟩:=q1
 cases r1
 exact wpAny_truthy_bool ⟨H1,I1,q⟩
variable {tA tB':TT} {rest:List Expr}
def tAnd (t u:TT):TT:=fun σ H Q=>t σ H fun c H1=>if c=true then u σ H1 Q else Q false H1
def tOr (t u:TT):TT:=fun σ H Q=>t σ H fun c H1=>if c=true then Q true H1 else u σ H1 Q
def tNot (t:TT):TT:=fun σ H Q=>t σ H fun c H1=>Q (!c) H1
theorem pw_and1 (ha:PT X a tA):PW X (.BoolOp .And [a] pos) tA:=by
 intro wh pins s σ H Q I h
 refine isTrue_and (thn (ha pins s σ H Q I h) fun c s1 e=>?_)
 cases c with
 | true=>exact isTrue_and_nil e
 | false=>exact e
theorem pw_or1 (ha:PT X a tA):PW X (.BoolOp .Or [a] pos) tA:=by
 intro wh pins s σ H Q I h
 refine isTrue_or (thn (ha pins s σ H Q I h) fun c s1 e=>?_)
 cases c with
 | false=>exact isTrue_or_nil e
 | true=>exact e
theorem pw_and (ha:PT X a tA) (hb:PW X (.BoolOp .And (b::rest) pos) tB'):PW X (.BoolOp .And (a::b::rest) pos) (tAnd tA tB'):=by
 intro wh pins s σ H Q I h
 refine isTrue_and (thn (ha pins s σ H _ I h) fun c s1 ⟨H1,I1,q1⟩=>?_)
 cases c with
 | true=>exact hb wh pins s1 σ H1 Q I1 q1
 | false=>exact ⟨H1,I1,q1⟩
theorem pw_or (ha:PT X a tA) (hb:PW X (.BoolOp .Or (b::rest) pos) tB'):PW X (.BoolOp .Or (a::b::rest) pos) (tOr tA tB'):=by
 intro wh pins s σ H Q I h
 refine isTrue_or (thn (ha pins s σ H _ I h) fun c s1 ⟨H1,I1,q1⟩=>?_)
 cases c with
 | true=>exact ⟨H1,I1,q1⟩
 | false=>exact hb wh pins s1 σ H1 Q I1 q1
theorem pt_not (ha:PT X a tA):PT X (.UnaryOp .Not a pos) (tNot tA):=by
 intro pins s σ H Q I h
 exact isTrue_not (ha pins s σ H (fun c H1=>Q (!c) H1) I h)
def tAndV (ta tb:TE):TE:=fun σ H Q=>ta σ H fun x H1=>∃c,x=.bl c/\if c=true then tb σ H1 Q else Q (.bl false) H1
def tOrV (ta tb:TE):TE:=fun σ H Q=>ta σ H fun x H1=>∃c,x=.bl c/\if c=true then Q (.bl true) H1 else tb σ H1 Q
def tNotV (ta:TE):TE:=fun σ H Q=>ta σ H fun x H1=>∃c,x=.bl c/\Q (.bl (!c)) H1
theorem pe_one {op} {t:TE} (h:PE X a t):PE X (.BoolOp op [a] pos) t:=fun pins s σ H Q I hw=>BoolOp_one (h pins s σ H Q I hw)
theorem pe_and (ha:PE X a ta) (hb:PE X (.BoolOp .And (b::rest) pos) tb):PE X (.BoolOp .And (a::b::rest) pos) (tAndV ta tb):=by
 intro pins s σ H Q I h
 refine BoolOp_and (thn (ha pins s σ H _ I h) fun v s1 ⟨x,H1,I1,r1,q1⟩=>?_)
 obtain ⟨c,rfl,q1⟩:=q1
 cases r1
 refine wpAny_truthy_bool ?_
 cases c with
 | true=>exact hb pins s1 σ H1 Q I1 q1
 | false=>exact ⟨.bl false,H1,I1,rfl,q1⟩
theorem pe_or (ha:PE X a ta) (hb:PE X (.BoolOp .Or (b::rest) pos) tb):PE X (.BoolOp .Or (a::b::rest) pos) (tOrV ta tb):=by
 intro pins s σ H Q I h
 refine BoolOp_or (thn (ha pins s σ H _ I h) fun v s1 ⟨x,H1,I1,r1,q1⟩=>?_)
 obtain ⟨c,rfl,q1⟩:=q1
 cases r1
 refine wpAny_truthy_bool ?_
 cases c with
 | false=>exact hb pins s1 σ H1 Q I1 q1
 | true=>exact ⟨.bl true,H1,I1,rfl,q1⟩
theorem pe_not (ha:PE X a ta):PE X (.UnaryOp .Not a pos) (tNotV ta):=by
 intro pins s σ H Q I h
 refine UnaryOp_ (thn (ha pins s σ H _ I h) fun v s1 ⟨x,H1,I1,r1,q1⟩=>?_)
 obtain ⟨c,rfl,q1⟩:=q1
 cases r1
 exact not_of (wpAny_truthy_bool ⟨.bl (!c),H1,I1,rfl,q1⟩)
def tIf (t:TT) (ta tb:TE):TE:=fun σ H Q=>t σ H fun c H1=>if c=true then ta σ H1 Q else tb σ H1 Q
theorem pe_ifExp {c:Expr} (hc:PT X c tA) (ha:PE X a ta) (hb:PE X b tb):PE X (.IfExp c a b pos) (tIf tA ta tb):=by
 intro pins s σ H Q I h
 refine wpAny_IfExp (thn (hc pins s σ H _ I h) fun d s1 ⟨H1,I1,q1⟩=>?_)
 cases d with
 | true=>exact ha pins s1 σ H1 Q I1 q1
 | false=>exact hb pins s1 σ H1 Q I1 q1
end
def SqL (K:Frag) (H:Hp) (a:Addr) (xs:List V):Prop:=
 Rd H a (.lst xs)\/
  ∃(o:Obj) (its:Array Value) (n:Nat),K.lookup a=some o/\o.cls=.type "list" /\ o.dict=none/\o.data=.seq its n/\its.size<=sizeLine/\Vals xs its.toList
def SqT (K:Frag) (H:Hp) (a:Addr) (xs:List V):Prop:=
 Rd H a (.tup xs)\/
  ∃(o:Obj) (its:Array Value) (n:Nat),K.lookup a=some o/\o.cls=.type "tuple" /\ o.data=.seq its n/\its.size<=sizeLine/\Vals xs its.toList
def absV:Value->Option V
 | .none=>some .non
 | .bool b=>some (.bl b)
 | .int i _=>some (.int i)
 | .str x _=>some (.str x)
 | .bytes b _=>some (.byt b)
 | .float b _=>some (.flt b)
 | .ref a=>some (.ref a)
 | .type n=>some (.ty n)
 | _=>none
theorem RelV.abs {x:V} {u:Value} (r:RelV x u):absV u=some x:=by
 cases x with
 | non=>cases r;rfl
 | bl _=>cases r;rfl
 | int _=>obtain ⟨t,rfl⟩:=r;rfl
 | str _=>obtain ⟨t,rfl⟩:=r;rfl
 | byt _=>obtain ⟨t,rfl⟩:=r;rfl
 | flt _=>obtain ⟨t,rfl⟩:=r;rfl
 | ref _=>cases r;rfl
 | ty _=>cases r;rfl
theorem RelV.inj {x y:V} {u:Value} (r:RelV x u) (q:RelV y u):x=y:=Option.some.inj (r.abs.symm.trans q.abs)
theorem Vals.inj:∀{xs ys:List V} {us:List Value},Vals xs us->Vals ys us->xs=ys
 | _,_,_,.nil,.nil=>rfl
 | _,_,_,.cons r t,.cons r' t'=>by rw [r.inj r',Vals.inj t t']
section
variable {X:Cx} {pins:List (Addr×Obj)} {σ:St} {H:Hp} {s:Shared} {a:Addr} {xs ys:List V}
theorem SqL.of {K:Frag} (h:H a=some (.lst xs)):SqL K H a xs:=.inl (.inl h)
theorem SqT.of {K:Frag} (h:H a=some (.tup xs)):SqT K H a xs:=.inl (.inl h)
theorem Inv.list (I:Inv X pins σ H s) (h:SqL X.K H a xs):∃its:List Value,Vals xs its/\PlainL s.heap a its.toArray/\xs.length<=sizeLine:=by
 rcases h with h|⟨o,its,n,hk,hc,hd,hs,hz,r⟩
 ·obtain ⟨z,its,n,r,e⟩:=h.ok I.hok
  exact ⟨its,r,⟨_,n,e,rfl,rfl,rfl⟩,z⟩
 ·refine ⟨its.toList,r,⟨o,n,I.kIn a o hk,hc,hd,by simpa using hs⟩,?_⟩
  have e:=r.length
  simp only [length_toList] at e
  omega
theorem Inv.tuple (I:Inv X pins σ H s) (h:SqT X.K H a xs):∃its:List Value,Vals xs its/\IsTup s.heap a its.toArray/\xs.length<=sizeLine:=by
 rcases h with h|⟨o,its,n,hk,hc,hs,hz,r⟩
 ·obtain ⟨z,its,r,p⟩:=h.ok I.hok
  exact ⟨its,r,p,z⟩
 ·refine ⟨its.toList,r,⟨o,I.kIn a o hk,hc,n,by simpa using hs⟩,?_⟩
  have e:=r.length
  simp only [length_toList] at e
  omega
theorem Inv.list_inj (I:Inv X pins σ H s) (h:SqL X.K H a xs) (h':SqL X.K H a ys):xs=ys:=by
 obtain ⟨its,r,⟨o,n,e,_,_,d⟩,_⟩:=I.list h
 obtain ⟨its',r',⟨o',n',e',_,_,d'⟩,_⟩:=I.list h'
 rw [e] at e';cases e'
 rw [d] at d'
 injection d' with d1 _
 have:its=its':=by simpa using congrArg Array.toList d1
 subst this
 exact r.inj r'
theorem Inv.tuple_inj (I:Inv X pins σ H s) (h:SqT X.K H a xs) (h':SqT X.K H a ys):xs=ys:=by
 obtain ⟨its,r,⟨o,e,_,n,d⟩,_⟩:=I.tuple h
 obtain ⟨its',r',⟨o',e',_,n',d'⟩,_⟩:=I.tuple h'
 rw [e] at e';cases e'
 rw [d] at d'
 injection d' with d1 _
 have:its=its':=by simpa using congrArg Array.toList d1
 subst this
 exact r.inj r'
end
abbrev Cx.wish (X:Cx) (E:Value->Shared->Prop):Cx:={ X with xe:=E }
abbrev Cx.nox (X:Cx):Cx:=X.wish fun _ _=>False
theorem Cx.Ok.wish {X:Cx} (ok:X.Ok) (E:Value->Shared->Prop):(X.wish E).Ok:=
 ⟨ok.mod,ok.kind,ok.glob,ok.blt,ok.above,ok.inj,ok.has,ok.cab,ok.hd,ok.frames,ok.stk,ok.exf,ok.bs,ok.bsz,ok.noex,ok.exfs,ok.funs,ok.frf⟩
theorem Cx.Ok.unwish {X:Cx} {E:Value->Shared->Prop} (ok:(X.wish E).Ok):X.Ok:=
 ⟨ok.mod,ok.kind,ok.glob,ok.blt,ok.above,ok.inj,ok.has,ok.cab,ok.hd,ok.frames,ok.stk,ok.exf,ok.bs,ok.bsz,ok.noex,ok.exfs,ok.funs,ok.frf⟩
section
variable {X:Cx} {pins:List (Addr×Obj)} {σ:St} {H:Hp} {s:Shared} {E:Value->Shared->Prop}
theorem Inv.wish (I:Inv X pins σ H s) (E:Value->Shared->Prop):Inv (X.wish E) pins σ H s:=⟨I.ok.wish E,I.os,I.bare,I.base,I.loc,I.cell,I.free,I.freeC,I.pin,I.hok,I.len⟩
theorem Inv.unwish (I:Inv (X.wish E) pins σ H s):Inv X pins σ H s:=⟨I.ok.unwish,I.os,I.bare,I.base,I.loc,I.cell,I.free,I.freeC,I.pin,I.hok,I.len⟩
theorem SP.unwish {D:Ends} {f:Flow} {s':Shared} (h:SP (X.wish E) pins D f s'):SP X pins D f s':=by
 cases f with
 | next=>obtain ⟨σ',H',I,q⟩:=h;exact ⟨σ',H',I.unwish,q⟩
 | brk=>obtain ⟨σ',H',I,q⟩:=h;exact ⟨σ',H',I.unwish,q⟩
 | cont=>obtain ⟨σ',H',I,q⟩:=h;exact ⟨σ',H',I.unwish,q⟩
 | ret u=>obtain ⟨v,σ',H',I,r,q⟩:=h;exact ⟨v,σ',H',I.unwish,r,q⟩
theorem PSs.nox {st:List Stmt} {t:TS} (h:PSs X.nox st t):PSs X st t:=fun pins s σ H D I hw=>
 wpAny_mono (h pins s σ H D (I.wish _) hw) (fun _ _ q=>q.unwish) fun _ _ z=>False.elim z
end
section
variable {X:Cx} {st:Stmt} {rest:List Stmt} {t u:TS} {e:Expr} {te:TE} {pos:Pos}
def tNext:TS:=fun D σ H=>D.nx σ H
def tSeq (t u:TS):TS:=fun D σ H=>t { D with nx:=u D } σ H
theorem b4o:PSs X [] tNext:=fun _ _ σ H _ I h=>wpAny_execs_nil ⟨σ,H,I,h⟩
theorem b1W (h1:PS X st t) (h2:PSs X rest u):PSs X (st::rest) (tSeq t u):=by
 intro pins s σ H D I h
 refine wpAny_execs_cons (thn (h1 pins s σ H { D with nx:=u D } I h) fun f s1 q=>?_)
 cases f with
 | next=>
  obtain ⟨σ',H',I',q⟩:=q
  exact h2 pins s1 σ' H' D I' q
 | ret v=>exact q
 | brk=>exact q
 | cont=>exact q
theorem pss_one (h1:PS X st t):PSs X [st] t:=by
 intro pins s σ H D I h
 refine wpAny_execs_cons (thn (h1 pins s σ H D I h) fun f s1 q=>?_)
 cases f with
 | next=>exact wpAny_execs_nil q
 | ret v=>exact q
 | brk=>exact q
 | cont=>exact q
def tBreak:TS:=fun D σ H=>D.bk σ H
def tCont:TS:=fun D σ H=>D.ct σ H
theorem Inv.quiet {pins:List (Addr×Obj)} {σ:St} {H:Hp} {s:Shared} (I:Inv X pins σ H s):interactive X.env=false:=by simp [interactive,I.ok.kind]
def tDrop (te:TE):TS:=fun D σ H=>te σ H fun _ H1=>D.nx σ H1
theorem b4p (he:PE X e te) (hs:swapsWith e none pos.line X.env=pure false:=by rfl):PS X (.Expr e pos) (tDrop te):=by
 intro pins s σ H D I h
 exact wpAny_Expr_any (thn (he pins s σ H _ I h) fun v s1 ⟨x,H1,I1,r1,q1⟩=>⟨σ,H1,I1,q1⟩) I.quiet hs
def tRet (te:TE):TS:=fun D σ H=>te σ H D.rt
theorem ps_ret (he:PE X e te):PS X (.Return (some e) pos) (tRet te):=by
 intro pins s σ H D I h
 exact wpAny_Return_some (thn (he pins s σ H _ I h) fun v s1 ⟨x,H1,I1,r1,q1⟩=>⟨x,σ,H1,I1,r1,q1⟩)
def tRetN:TS:=fun D _ H=>D.rt .non H
def tIfS (c:TT) (t u:TS):TS:=fun D σ H=>c σ H fun b H1=>if b=true then t D σ H1 else u D σ H1
theorem ps_if {c:Expr} {a b:List Stmt} {tc:TT} (hc:PT X c tc) (ha:PSs X a t) (hb:PSs X b u):PS X (.If c a b pos) (tIfS tc t u):=by
 intro pins s σ H D I h
 refine wpAny_If (thn (hc pins s σ H _ I h) fun d s1 ⟨H1,I1,q1⟩=>?_)
 cases d with
 | true=>exact ha pins s1 σ H1 D I1 q1
 | false=>exact hb pins s1 σ H1 D I1 q1
def tNever:TS:=fun _ _ _=>False
end
abbrev TG:=V->St->Hp->(St->Hp->Prop)->Prop
abbrev TGs:=List V->St->Hp->(St->Hp->Prop)->Prop
def PG (X:Cx) (target:Expr) (t:TG):Prop:=
 ∀(pins:List (Addr×Obj)) (s:Shared) (σ:St) (H:Hp) (v:V) (u:Value) (Q:St->Hp->Prop),Inv X pins σ H s->RelV v u->t v σ H Q->
  wpAny (model X.prog X.w) X.A (assign target X.env u) (fun _ s'=>∃σ' H',Inv X pins σ' H' s'/\Q σ' H') X.xe s
def PGs (X:Cx) (ts:List Expr) (t:TGs):Prop:=
 ∀(pins:List (Addr×Obj)) (s:Shared) (σ:St) (H:Hp) (vs:List V) (us:List Value) (Q:St->Hp->Prop),Inv X pins σ H s->Vals vs us->t vs σ H Q->
  wpAny (model X.prog X.w) X.A (assignInOrder ((assignEach ts X.env).map (·.2)) us) (fun _ s'=>∃σ' H',Inv X pins σ' H' s'/\Q σ' H') X.xe s
abbrev TSet:=V->V->V->Hp->(Hp->Prop)->Prop
def PSet (X:Cx) (t:TSet):Prop:=
 ∀(pins:List (Addr×Obj)) (s:Shared) (σ:St) (H:Hp) (o i v:V) (ov iv u:Value) (Q:Hp->Prop),Inv X pins σ H s->RelV o ov->RelV i iv->RelV v u->t o i v H Q->
  wpAny (model X.prog X.w) X.A (setItem ov iv u) (fun _ s'=>∃H',Inv X pins σ H' s'/\Q H') X.xe s
abbrev TIp:=V->V->Hp->VK->Prop
def PIp (X:Cx) (op:Operator) (t:TIp):Prop:=
 ∀(pins:List (Addr×Obj)) (s:Shared) (σ:St) (H:Hp) (x y:V) (v u:Value) (Q:VK),Inv X pins σ H s->RelV x v->RelV y u->t x y H Q->
  wpAny (model X.prog X.w) X.A (inplaceOp op v u) (EP X pins σ Q) X.xe s
section
variable {X:Cx} {pos:Pos}
def b5p (i:Nat):TG:=fun v σ H Q=>Q (σ.set i (some v)) H
theorem b0T {i:Nat} {x:Str} (hN:X.N.Nodup) (hi:X.N[i]?=some x) (hx:Loc X.env.scope x) (hf:X.fn x=true\/X.env.scope.names.lookup x=some .local:=by first|exact .inl rfl|exact .inr rfl|assumption):PG X (.Name x pos) (b5p i):=by
 intro pins s σ H v u Q I r h
 exact wpAny_assign_Name (b1M I hN hi hx r (fun s' I'=>⟨_,H,I',h⟩) hf)
def gNil:TGs:=fun vs σ H Q=>vs=[]/\Q σ H
def gCons (t:TG) (u:TGs):TGs:=fun vs σ H Q=>∃v r,vs=v::r/\t v σ H fun σ' H'=>u r σ' H' Q
theorem pgs_nil:PGs X [] gNil:=by
 intro pins s σ H vs us Q I r h
 obtain ⟨e,h⟩:=h
 subst e
 cases r
 exact assignInOrder_nil ⟨σ,H,I,h⟩
theorem b1Y {e:Expr} {es:List Expr} {t:TG} {u:TGs} (h1:PG X e t) (h2:PGs X es u)
  (hs:(assignEach (e::es) X.env).map (·.2)=assign e X.env::(assignEach es X.env).map (·.2):=by rfl):PGs X (e::es) (gCons t u):=by
 intro pins s σ H vs us Q I r h
 obtain ⟨v,vr,e1,h⟩:=h
 subst e1
 cases r with
 | cons r rr=>
  rw [hs]
  refine assignInOrder_cons (thn (h1 pins s σ H _ _ _ I r h) fun _ s1 ⟨σ1,H1,I1,q1⟩=>?_)
  exact h2 pins s1 σ1 H1 _ _ Q I1 rr q1
def gTup (K:Frag) (n:Nat) (t:TGs):TG:=fun v σ H Q=>∃a xs,v=.ref a/\SqT K H a xs/\xs.length=n/\t xs σ H Q
theorem pg_tup {es:List Expr} {k:Nat} {t:TGs} {n:Nat} (hc:X.calm=true) (h:PGs X es t)
  (hn:(assignEach es X.env).length=n:=by rfl) (hst:(assignEach es X.env).findIdx? (·.1)=none:=by rfl):PG X (.Tuple es k pos) (gTup X.K n t):=by
 intro pins s σ H v u Q I r hw
 obtain ⟨a,xs,e1,hq,hl,hw⟩:=hw
 subst e1
 cases r
 obtain ⟨its,rv,ht,hz⟩:=I.tuple hq
 refine assign_Tuple_tuple (I.ok.hd hc) ht (by simp [hn,←hl,rv.length]) hst fun h' hx=>?_
 have I1:Inv X pins σ H { s with heap:=h' }:=I.kept (t':=s.toks) fun b o e=>hx b o (ne_of_lt (lt_size e)) e
 exact h pins _ σ H xs _ Q I1 (by simpa using rv) hw
def gSub (to ti:TE) (t:TSet):TG:=fun v σ H Q=>to σ H fun o H1=>ti σ H1 fun i H2=>t o i v H2 fun H3=>Q σ H3
theorem pg_sub {o i:Expr} {to ti:TE} {t:TSet} (ho:PE X o to) (hi:PE X i ti) (hs:PSet X t)
  (ha:∀v,assign (.Subscript o i pos) X.env v=(do
   let ov ←holding [v] (eval o X.env)
   let iv ←holding [v,ov] (eval i X.env)
   standAt pos
   holding [v,ov,iv] (setItem ov iv v)
   release [v,ov,iv] []):=by intro _;rfl):PG X (.Subscript o i pos) (gSub to ti t):=by
 intro pins s σ H v u Q I r h
 rw [ha]
 refine wpAny_bind (wpAny_holding (thn (ho pins s σ H _ I h) fun ov s1 ⟨x,H1,I1,r1,q1⟩=>?_))
 refine wpAny_bind (wpAny_holding (thn (hi pins s1 σ H1 _ I1 q1) fun iv s2 ⟨y,H2,I2,r2,q2⟩=>?_))
 refine wpAny_bind (wpAny_standAt (wpAny_bind (wpAny_holding (thn (hs pins s2 σ H2 x y v ov iv u _ I2 r1 r2 r q2) fun _ s3 ⟨H3,I3,q3⟩=>?_))))
 exact wpAny_release ⟨σ,H3,I3,q3⟩
def tAsg (te:TE) (g:TG):TS:=fun D σ H=>te σ H fun x H1=>g x σ H1 D.nx
theorem ps_asg {tg e:Expr} {te:TE} {g:TG} (he:PE X e te) (hg:PG X tg g) (hs:swapsWithSole [tg] e pos.line X.env=pure false:=by rfl) (hw:swappedStores [tg] e X.env=pure none:=by rfl)
  (h1:(assignEach [tg] X.env).map (·.2)=[assign tg X.env]:=by rfl):PS X (.Assign [tg] e pos) (tAsg te g):=by
 intro pins s σ H D I h
 refine wpAny_Assign_stores (thn (he pins s σ H _ I h) fun v s1 ⟨x,H1,I1,r1,q1⟩=>?_) hs hw
 rw [h1]
 exact thn (hg pins s1 σ H1 x v _ I1 r1 q1) fun _ s2 q=>q
theorem ps_set {i:Nat} {x:Str} {e:Expr} {te:TE} {pos':Pos} (hN:X.N.Nodup) (hi:X.N[i]?=some x) (hx:Loc X.env.scope x) (he:PE X e te) (hs:swapsWith e (some (.Name x pos')) pos.line X.env=pure false:=by rfl) (hf:X.fn x=true\/X.env.scope.names.lookup x=some .local:=by first|exact .inl rfl|exact .inr rfl|assumption):
  PS X (.Assign [.Name x pos'] e pos) (tAsg te (b5p i)):=by
 intro pins s σ H D I h
 refine wpAny_Assign_Name (thn (he pins s σ H _ I h) fun v s1 ⟨y,H1,I1,r1,q1⟩=>?_) hs
 exact b1M I1 hN hi hx r1 (fun s2 I2=>⟨_,H1,I2,q1⟩) hf
def tPar (i j:Nat) (ta:TA):TS:=fun D σ H=>ta σ H fun vs H1=>∃v w,vs=[v,w]/\D.nx ((σ.set i (some v)).set j (some w)) H1
def tAug (i:Nat) (te:TE) (ti:TIp):TS:=fun D σ H=>∃x,σ[i]?=some (some x)/\te σ H fun y H1=>ti x y H1 fun z H2=>D.nx (σ.set i (some z)) H2
def tAugS (to ti te:TE) (tget:V->V->Hp->VK->Prop) (tip:TIp) (tset:TSet):TS:=fun D σ H=>to σ H fun o H1=>ti σ H1 fun i H2=>tget o i H2 fun x H3=>te σ H3 fun y H4=>tip x y H4 fun z H5=>tset o i z H5 fun H6=>D.nx σ H6
def PGet (X:Cx) (t:V->V->Hp->VK->Prop):Prop:=
 ∀(pins:List (Addr×Obj)) (s:Shared) (σ:St) (H:Hp) (o i:V) (ov iv:Value) (Q:VK),Inv X pins σ H s->RelV o ov->RelV i iv->t o i H Q->
  wpAny (model X.prog X.w) X.A (getItem ov iv) (EP X pins σ Q) X.xe s
def ipI (f:Int->Int->Int):TIp:=fun x y H Q=>∃i j,x=.int i/\y=.int j/\Q (.int (f i j)) H
end
section
variable {X:Cx} {pos:Pos}
def tWhile (c:TT) (tb:TS):TS:=fun D σ H=>∃W:Nat->St->Hp->Prop,(∃m,W m σ H)/\∀m σ H,W m σ H->
 c σ H fun b H1=>if b=true then ∃N:St->Hp->Prop,(∀σ' H',N σ' H'->∃m',m'<m/\W m' σ' H')/\tb { D with nx:=N,ct:=N,bk:=D.nx } σ H1 else D.nx σ H1
end
structure It where
 go:Nat->Hp->Prop
 yld:Nat->Hp->V->Hp->Prop
 stop:Nat->Hp->Prop
def FpOk (X:Cx) (pins:List (Addr×Obj)) (H:Hp) (b:Addr):Prop:=
 H b=none/\b≠X.env.locals/\b∉X.fs/\(b∈X.ex\/X.s₀.heap.objs.size<=b)/\(∀x c,X.env.cells.lookup x=some c->c≠b)/\∀p∈X.pn++pins,p.1≠b
theorem Inv.fpOk {X:Cx} {pins:List (Addr×Obj)} {σ:St} {H H':Hp} {s:Shared} {b:Addr} (I:Inv X pins σ H s) (hb:s.heap.objs.size<=b) (hn:H' b=none):FpOk X pins H' b:=by
 refine ⟨hn,ne_of_gt (lt_of_lt_of_le I.lt hb),I.nofs hb,.inr (le_trans I.sz hb),fun x c e z=>?_,fun p hp z=>?_⟩
 ·obtain ⟨v,q⟩:=I.cell x c e
  exact absurd (lt_of_lt_of_le q.lt (by rw [z];exact hb)) (lt_irrefl _)
 ·exact absurd (lt_of_lt_of_le (lt_size (I.pin p hp).1) (by rw [z];exact hb)) (lt_irrefl _)
structure Turn (P:Program) (w:World) (K:Frag) (tg:Expr) (J:It) (fp:List Addr) (it:Addr) (tn:Nat->Heap->Prop):Prop where
 mem:it∈fp
 obj:∀i h,tn i h->∀b∈fp,∃o,h.get? b=some o/\∀v,o.data≠.cell v
 keep:∀i h h',tn i h->(∀b∈fp,∀o,h.get? b=some o->h'.get? b=some o)->tn i h'
 item:∀(X:Cx),X.prog=P->X.w=w->X.K=K->X.calm=true->∀(i:Nat) (pins:List (Addr×Obj)) (s:Shared) (σ:St) (H:Hp) (E:Value->Shared->Prop),Inv X pins σ H s->(∀b∈fp,FpOk X pins H b)->tn i s.heap->J.go i H->
  wpAny (model P w) X.A (pyNext (.ref it)) (fun r s1=>∃u,r=some u/\
   wpAny (model P w) X.A (letOwnedTupleGo tg (.ref it) u) (fun _ s2=>∃x H',Inv X pins σ H' s2/\RelV x u/\J.yld i H x H'/\tn (i+1) s2.heap/\∀b∈fp,H' b=none) E s1) E s
 done:∀(X:Cx),X.prog=P->X.w=w->X.K=K->X.calm=true->∀(i:Nat) (pins:List (Addr×Obj)) (s:Shared) (σ:St) (H:Hp) (E:Value->Shared->Prop),Inv X pins σ H s->(∀b∈fp,FpOk X pins H b)->tn i s.heap->J.stop i H->
  wpAny (model P w) X.A (pyNext (.ref it)) (fun r s1=>r=none/\Inv X pins σ H s1) E s
 self:∀(A:Around) (i:Nat) (s:Shared) (Q:Value->Shared->Prop) (E:Value->Shared->Prop),tn i s.heap->Q (.ref it) s->wpAny (model P w) A (pyIter (.ref it)) Q E s
abbrev TI:=St->Hp->(It->Hp->Prop)->Prop
def PIE (X:Cx) (pins:List (Addr×Obj)) (σ:St) (tg:Expr) (R:It->Hp->Prop) (itv:Value) (s2:Shared):Prop:=
 ∃(it:Addr) (fp:List Addr) (tn:Nat->Heap->Prop) (J:It) (H':Hp),itv=.ref it/\Inv X pins σ H' s2/\Turn X.prog X.w X.K tg J fp it tn/\tn 0 s2.heap/\(∀b∈fp,FpOk X pins H' b)/\R J H'
def PI (X:Cx) (tg iter:Expr) (wi:TI):Prop:=
 ∀(pins:List (Addr×Obj)) (s:Shared) (σ:St) (H:Hp) (R:It->Hp->Prop),Inv X pins σ H s->wi σ H R->
  wpAny (model X.prog X.w) X.A (eval iter X.env) (fun v s1=>wpAny (model X.prog X.w) X.A (pyIter v) (PIE X pins σ tg R) X.xe s1) X.xe s
theorem go_of {M:Model} {A:Around} {E:Value->Shared->Prop} {s:Shared} {tg:Expr} {it:Addr} {u:Value} {o:Obj} {n:String} {vs:Array Value} {Q:Unit->Shared->Prop} (ho:s.heap.get? it=some o) (hc:o.cls=.type n) (hd:o.data=.fields vs)
  (hn:["enumerate","zip","dict_itemiterator","dict_reverseitemiterator","odict_iterator","itertools.zip_longest","itertools.pairwise"].contains n=false) (hQ:Q () s):wpAny M A (letOwnedTupleGo tg (.ref it) u) Q E s:=by
 unfold letOwnedTupleGo
 cases tg <;> first
  | exact wpAny_pure hQ
  | (cases u <;> first
      | exact wpAny_pure hQ
      | (refine wpAny_bind (wpAny_load ho ?_)
         rw [hc,hd]
         show wpAny M A (if (["enumerate","zip","dict_itemiterator","dict_reverseitemiterator","odict_iterator","itertools.zip_longest","itertools.pairwise"].contains n && vs[0]? == some (rawInt _))=true then _ else _) Q E s
         rw [if_neg (by intro h;rw [hn,Bool.false_and] at h;cases h)]
         exact wpAny_pure hQ))
def Itl (K:Frag) (a:Addr):It:=
 ⟨fun i H=>∃xs x,SqL K H a xs/\xs[i]?=some x,fun i H x H'=>H'=H/\∀xs,SqL K H a xs->xs[i]?=some x,fun i H=>∃xs,SqL K H a xs/\xs.length<=i⟩
def Itt (K:Frag) (a:Addr):It:=
 ⟨fun i H=>∃xs x,SqT K H a xs/\xs[i]?=some x,fun i H x H'=>H'=H/\∀xs,SqT K H a xs->xs[i]?=some x,fun i H=>∃xs,SqT K H a xs/\xs.length<=i⟩
def Itr (lo:Int) (n:Nat):It:=⟨fun i _=>i<n,fun i H x H'=>H'=H/\x=.int (lo+i),fun i _=>n<=i⟩
theorem b3S {P:Program} {w:World} {K:Frag} {tg:Expr} (a it:Addr):Turn P w K tg (Itl K a) [it] it (fun i h=>h.IsListIter it a i) where
 mem:=by simp
 obj:=fun i h st b hb=>by
  have e:b=it:=by simpa using hb
  subst e
  obtain ⟨o,e,c,d⟩:=st
  exact ⟨o,e,fun v z=>by rw [d] at z;cases z⟩
 keep:=fun i h h' st k=>st.at fun o e=>k it (by simp) o e
 item:=by
  intro X hP hw hK hc i pins s σ H E I hf st hg
  subst hP hw hK
  obtain ⟨xs,x,hq,hx⟩:=hg
  obtain ⟨its,rv,p,hz⟩:=I.list hq
  obtain ⟨u,hu,ru⟩:=rv.get hx
  obtain ⟨f0,f1,f2,f3,f4,f5⟩:=hf it (by simp)
  refine wpAny_pyNext_list_item st p.isList (x:=u) (by simpa using hu) fun h' st' sb=>?_
  have I1:Inv X pins σ H { s with heap:=h' }:=I.turned (t':=s.toks) (fun b o hb e=>(sb.2 b hb).trans e) f0 f1 f3 f4 f5
  obtain ⟨o,e,c,d⟩:=id st'
  exact ⟨u,rfl,go_of (s:={ s with heap:=h' }) e c d (by decide) ⟨x,H,I1,ru,⟨rfl,fun ys hy=>by rw [I.list_inj hy hq];exact hx⟩,st',fun b hb=>(hf b hb).1⟩⟩
 done:=by
  intro X hP hw hK hc i pins s σ H E I hf st hg
  subst hP hw hK
  obtain ⟨xs,hq,hx⟩:=hg
  obtain ⟨its,rv,p,hz⟩:=I.list hq
  obtain ⟨f0,f1,f2,f3,f4,f5⟩:=hf it (by simp)
  have hl:=rv.length
  exact wpAny_pyNext_list_end (I.ok.hd hc) st p.isList (by simp;omega) fun h' eb=>⟨rfl,I.turned (t':=s.toks) (fun b o hb e=>eb b o hb e) f0 f1 f3 f4 f5⟩
 self:=fun _ _ _ _ _ st h=>wpAny_pyIter_listiter st h
theorem b2v {P:Program} {w:World} {K:Frag} {tg:Expr} (a it:Addr):Turn P w K tg (Itt K a) [it] it (fun i h=>h.IsTupleIter it a i) where
 mem:=by simp
 obj:=fun i h st b hb=>by
  have e:b=it:=by simpa using hb
  subst e
  obtain ⟨o,e,c,d⟩:=st
  exact ⟨o,e,fun v z=>by rw [d] at z;cases z⟩
 keep:=fun i h h' st k=>st.at fun o e=>k it (by simp) o e
 item:=by
  intro X hP hw hK hc i pins s σ H E I hf st hg
  subst hP hw hK
  obtain ⟨xs,x,hq,hx⟩:=hg
  obtain ⟨its,rv,p,hz⟩:=I.tuple hq
  obtain ⟨u,hu,ru⟩:=rv.get hx
  obtain ⟨f0,f1,f2,f3,f4,f5⟩:=hf it (by simp)
  refine wpAny_pyNext_tuple_item st (show s.heap.IsTuple a its.toArray from p) (x:=u) (by simpa using hu) fun h' st' sb=>?_
  have I1:Inv X pins σ H { s with heap:=h' }:=I.turned (t':=s.toks) (fun b o hb e=>(sb.2 b hb).trans e) f0 f1 f3 f4 f5
  obtain ⟨o,e,c,d⟩:=id st'
  exact ⟨u,rfl,go_of (s:={ s with heap:=h' }) e c d (by decide) ⟨x,H,I1,ru,⟨rfl,fun ys hy=>by rw [I.tuple_inj hy hq];exact hx⟩,st',fun b hb=>(hf b hb).1⟩⟩
 done:=by
  intro X hP hw hK hc i pins s σ H E I hf st hg
  subst hP hw hK
  obtain ⟨xs,hq,hx⟩:=hg
  obtain ⟨its,rv,p,hz⟩:=I.tuple hq
  obtain ⟨f0,f1,f2,f3,f4,f5⟩:=hf it (by simp)
  have hl:=rv.length
  exact wpAny_pyNext_tuple_end (I.ok.hd hc) st (show s.heap.IsTuple a its.toArray from p) (by simp;omega) fun h' eb=>⟨rfl,I.turned (t':=s.toks) (fun b o hb e=>eb b o hb e) f0 f1 f3 f4 f5⟩
 self:=fun _ _ _ _ _ st h=>wpAny_pyIter_tupleiter st h
theorem b2w {P:Program} {w:World} {K:Frag} {tg:Expr} (it:Addr) (lo:Int) (n:Nat):Turn P w K tg (Itr lo n) [it] it (fun i h=>IsRangeIter h it (lo+(i:Nat) * 1) ((n:Int) - (i:Nat)) 1) where
 mem:=by simp
 obj:=fun i h st b hb=>by
  have e:b=it:=by simpa using hb
  subst e
  exact ⟨_,st,fun v z=>by
   have z':Data.fields _=Data.cell v:=z
   cases z'⟩
 keep:=fun i h h' st k=>k it (by simp) _ st
 item:=by
  intro X hP hw hK hc i pins s σ H E I hf st hg
  subst hP hw hK
  obtain ⟨f0,f1,f2,f3,f4,f5⟩:=hf it (by simp)
  have W:=Walks.range (prog:=X.prog) (w:=X.w) (I.ok.hd hc) it lo 1 n
  refine W.item i s _ _ hg st fun v h' tk hv st' kk=>?_
  obtain ⟨t,rfl⟩:=hv
  have I1:Inv X pins σ H { s with heap:=h',toks:=tk }:=I.turned (fun b o hb e=>kk b o (by simpa using hb) e) f0 f1 f3 f4 f5
  refine ⟨_,rfl,go_of (s:={ s with heap:=h',toks:=tk }) (n := "range_iterator") st' rfl rfl (by decide) ⟨.int (lo+i),H,I1,⟨t,?_⟩,⟨rfl,rfl⟩,st',fun b hb=>(hf b hb).1⟩⟩
  rw [Int.mul_one]
 done:=by
  intro X hP hw hK hc i pins s σ H E I hf st hg
  subst hP hw hK
  obtain ⟨f0,f1,f2,f3,f4,f5⟩:=hf it (by simp)
  exact wpAny_pyNext_range_end (I.ok.hd hc) st (by have:n<=i:=hg;omega) fun h' eb=>⟨rfl,I.turned (t':=s.toks) (fun b o hb e=>eb b o hb e) f0 f1 f3 f4 f5⟩
 self:=fun _ _ _ _ _ st h=>wpAny_pyIter_rangeiter st h
section
variable {X:Cx} {tg:Expr}
def iList (K:Frag) (tl:TE):TI:=fun σ H R=>tl σ H fun x H1=>∃a,x=.ref a/\(∃xs,SqL K H1 a xs)/\R (Itl K a) H1
def iTup (K:Frag) (tl:TE):TI:=fun σ H R=>tl σ H fun x H1=>∃a,x=.ref a/\(∃xs,SqT K H1 a xs)/\R (Itt K a) H1
theorem b1S {pins:List (Addr×Obj)} {σ:St} {H:Hp} {s:Shared} {R:It->Hp->Prop} {E:Value->Shared->Prop} {lo hi:Int} {t u v:Tok} {tk:Nat} (I:Inv X pins σ H s) (h1:-(2 ^ 62)<=lo) (h2:lo<2 ^ 62) (h3:-(2 ^ 62)<=hi) (h4:hi<2 ^ 62)
  (q:R (Itr lo (hi - lo).toNat) H):wpAny (model X.prog X.w) X.A (pyIter (.ref s.heap.objs.size)) (PIE X pins σ tg R) E { s with heap:=s.heap.push { cls:=.type "range",data:=.fields #[.int lo t,.int hi u,.int 1 v] },toks:=tk }:=by
 refine wpAny_pyIter_range (IsRange.new ..) (small_one h1 h2 h3 h4) ?_
 have I1:Inv X pins σ H { s with heap:=s.heap.push { cls:=.type "range",data:=.fields #[.int lo t,.int hi u,.int 1 v] },toks:=tk }:=I.kept fun b o e=>get?_push_of_some _ e
 refine ⟨(s.heap.push { cls:=.type "range",data:=.fields #[.int lo t,.int hi u,.int 1 v] }).objs.size,[(s.heap.push { cls:=.type "range",data:=.fields #[.int lo t,.int hi u,.int 1 v] }).objs.size],_,_,H,rfl,
  I1.kept (t':=tk) fun b o e=>get?_push_of_some _ e,b2w _ lo (hi - lo).toNat,?_,fun b hb=>?_,q⟩
 ·have e1:lo+((0:Nat):Int) * 1=lo:=by simp
  have e2:(((hi - lo).toNat:Nat):Int) - ((0:Nat):Int)=Builtin.Range.rangeSize lo hi 1:=by rw [rangeSize_one];split <;> omega
  show IsRangeIter _ _ (lo+((0:Nat):Int) * 1) ((((hi - lo).toNat:Nat):Int) - ((0:Nat):Int)) 1
  rw [e1,e2]
  exact get?_push_size _ rfl
 ·have e:b=(s.heap.push { cls:=.type "range",data:=.fields #[.int lo t,.int hi u,.int 1 v] }).objs.size:=by simpa using hb
  subst e
  exact I1.fpOk (le_refl _) (I1.hok.fresh (le_refl _))
def iRng1 (ta:TA):TI:=fun σ H R=>ta σ H fun vs H1=>∃j:Int,vs=[.int j]/\-(2 ^ 62)<=j/\j<2 ^ 62/\R (Itr 0 j.toNat) H1
def iRng2 (ta:TA):TI:=fun σ H R=>ta σ H fun vs H1=>∃i j:Int,vs=[.int i,.int j]/\(-(2 ^ 62)<=i/\i<2 ^ 62/\-(2 ^ 62)<=j/\j<2 ^ 62)/\R (Itr i (j - i).toNat) H1
theorem b4w {a:Expr} {ta:TA} {p pos:Pos} (hg:Gl X "range") (hm:X.mg "range" = none) (ha:PA X [a] ta) (hs:starEach [a] X.env=[(false,eval a X.env)]:=by rfl):PI X tg (.Call (.Name "range" p) [a] [] pos) (iRng1 ta):=by
 intro pins s σ H R I h
 refine Call_ (a7t I hg hm boot_range (PyProof.Rows.callWith_type1 (thn (ha pos pins s σ H _ I h) fun us s1 ⟨vs,H1,I1,r1,q1⟩=>?_) hs rfl))
 obtain ⟨j,e,q1,q2,q⟩:=q1
 subst e
 cases r1 with
 | cons r rr=>
  cases rr
  obtain ⟨t,rfl⟩:=r
  exact call_range_1 (b1S I1 (by omega) (by omega) q1 q2 (by simpa using q))
theorem b4v {a b:Expr} {ta:TA} {p pos:Pos} (hg:Gl X "range") (hm:X.mg "range" = none) (ha:PA X [a,b] ta) (hs:starEach [a,b] X.env=[(false,eval a X.env),(false,eval b X.env)]:=by rfl) (hs2:starEach [b] X.env=[(false,eval b X.env)]:=by rfl):
  PI X tg (.Call (.Name "range" p) [a,b] [] pos) (iRng2 ta):=by
 intro pins s σ H R I h
 refine Call_ (a7t I hg hm boot_range (PyProof.Rows.callWith_type1 (thn (ha pos pins s σ H _ I h) fun us s1 ⟨vs,H1,I1,r1,q1⟩=>?_) (by rw [hs,hs2]) (by rw [hs2];rfl)))
 obtain ⟨i,j,e,⟨q1,q2,q3,q4⟩,q⟩:=q1
 subst e
 cases r1 with
 | cons r rr=>
  cases rr with
  | cons r' rr=>
   cases rr
   obtain ⟨t,rfl⟩:=r
   obtain ⟨t',rfl⟩:=r'
   exact call_range_2 (b1S I1 q1 q2 q3 q4 q)
def tFor (wi:TI) (g:TG) (tb:TS):TS:=fun D σ H=>wi σ H fun J H1=>∃W:Nat->Nat->St->Hp->Prop,(∃m,W 0 m σ H1)/\∀i m σ H,W i m σ H->
 (J.stop i H/\D.nx σ H)\/(J.go i H/\∃N:St->Hp->Prop,(∀σ' H',N σ' H'->∃m',m'<m/\W (i+1) m' σ' H')/\∀x H',J.yld i H x H'->g x σ H' fun σ2 H2=>tb { D with nx:=N,ct:=N,bk:=D.nx } σ2 H2)
def a9H (fp:List Addr) (h:Heap):List (Addr×Obj):=fp.filterMap fun b=>(h.get? b).map fun o=>(b,o)
theorem a5D {fp:List Addr} {h:Heap} {b:Addr} {o:Obj} (hb:b∈fp) (e:h.get? b=some o):(b,o)∈a9H fp h:=List.mem_filterMap.mpr ⟨b,hb,by rw [e];rfl⟩
theorem b4N {fp:List Addr} {h:Heap} {p:Addr×Obj} (hp:p∈a9H fp h):p.1∈fp/\h.get? p.1=some p.2:=by
 obtain ⟨b,hb,e⟩:=List.mem_filterMap.mp hp
 cases q:h.get? b with
 | none=>rw [q] at e;cases e
 | some o=>
  rw [q] at e
  have e':(b,o)=p:=Option.some.inj e
  subst e'
  exact ⟨hb,q⟩
theorem Inv.pinned {pins:List (Addr×Obj)} {σ:St} {H:Hp} {s:Shared} {fp:List Addr} (I:Inv X pins σ H s) (hf:∀b∈fp,FpOk X pins H b) (ho:∀b∈fp,∃o,s.heap.get? b=some o/\∀v,o.data≠.cell v):Inv X (pins++a9H fp s.heap) σ H s:=
 I.pins_of fun p hp=>(mem_append.mp hp).elim (fun z=>I.pin p (mem_append_right _ z)) fun z=>by
  obtain ⟨hb,e⟩:=b4N z
  obtain ⟨f0,f1,f2,_⟩:=hf p.1 hb
  obtain ⟨o,e',d⟩:=ho p.1 hb
  rw [e] at e';cases e'
  exact ⟨e,f0,f1,f2,d⟩
theorem Inv.unpinned {pins pl:List (Addr×Obj)} {σ:St} {H:Hp} {s:Shared} (I:Inv X (pins++pl) σ H s):Inv X pins σ H s:=I.pins_of fun p hp=>I.pin p (mem_append_right _ (mem_append_left _ hp))
theorem ps_for {iter:Expr} {body:List Stmt} {wi:TI} {g:TG} {tb:TS} {pos:Pos} (hp:PassesOwn (model X.prog X.w) X.A X.env X.xe) (hc:X.calm=true) (hi:PI X tg iter wi) (hg:PG X tg g) (hb:PSs X body tb)
  (hs:∀x,foldedSetIterable iter X.env x=pure x:=by intro _;rfl):PS X (.For tg iter body [] pos) (tFor wi g tb):=by
 intro pins s σ H D I h
 refine wpAny_For (thn (hi pins s σ H _ I h) fun v s1 h1=>thn h1 fun itv s2 h2=>?_) hs
 obtain ⟨it,fp,tn,J,H2,e,I2,T,st2,f2,W,⟨m0,w0⟩,turn⟩:=h2
 subst e
 have stat:∀{H':Hp},(∀b∈fp,H' b=none)->∀b∈fp,FpOk X pins H' b:=fun hn b hb=>⟨hn b hb,(f2 b hb).2⟩
 refine codeAny_forLoop_any (fun n s'=>∃i σ' H',Inv X pins σ' H' s'/\tn i s'.heap/\(∀b∈fp,H' b=none)/\W i n σ' H') ?_ m0 ⟨0,σ,H2,I2,st2,fun b hb=>(f2 b hb).1,w0⟩
 rintro n s3 ⟨i,σ3,H3,I3,st3,fr3,w3⟩
 rcases turn i n σ3 H3 w3 with ⟨stop,qn⟩|⟨go,N,hN,step⟩
 ·refine wpAny_passesOwn hp (thn (T.done X rfl rfl rfl hc i pins s3 σ3 H3 X.xe I3 (stat fr3) st3 stop) fun r s4 ⟨hr,I4⟩=>?_)
  subst hr
  exact wpAny_execs_nil ⟨σ3,H3,I4,qn⟩
 ·refine wpAny_passesOwn hp (thn (T.item X rfl rfl rfl hc i pins s3 σ3 H3 X.xe I3 (stat fr3) st3 go) fun r s4 ⟨u,hr,h4⟩=>?_)
  subst hr
  refine wpAny_passesOwn hp (thn h4 fun _ s5 ⟨x,H5,I5,r5,y5,st5,fr5⟩=>?_)
  have I5':=I5.pinned (stat fr5) (T.obj _ _ st5)
  refine wpAny_passesOwn hp (thn (hg _ s5 σ3 H5 x u _ I5' r5 (step x H5 y5)) fun _ s6 ⟨σ6,H6,I6,q6⟩=>?_)
  refine wpAny_passesOwn hp (thn (hb _ s6 σ6 H6 _ I6 q6) fun f s7 q7=>?_)
  have again:∀{σ7:St} {H7:Hp},Inv X (pins++a9H fp s5.heap) σ7 H7 s7->N σ7 H7->∃m,m<n/\∃i σ' H',Inv X pins σ' H' s7/\tn i s7.heap/\(∀b∈fp,H' b=none)/\W i m σ' H':=fun {σ7 H7} I7 n7=>by
   obtain ⟨m',hm,w7⟩:=hN σ7 H7 n7
   refine ⟨m',hm,i+1,σ7,H7,I7.unpinned,T.keep _ _ _ st5 fun b hb o e=>(I7.pin (b,o) (mem_append_right _ (mem_append_right _ (a5D hb e)))).1,fun b hb=>?_,w7⟩
   obtain ⟨o,e,d⟩:=T.obj _ _ st5 b hb
   exact (I7.pin (b,o) (mem_append_right _ (mem_append_right _ (a5D hb e)))).2.1
  cases f with
  | next=>obtain ⟨σ7,H7,I7,n7⟩:=q7;exact again I7 n7
  | cont=>obtain ⟨σ7,H7,I7,n7⟩:=q7;exact again I7 n7
  | brk=>obtain ⟨σ7,H7,I7,q7⟩:=q7;exact ⟨σ7,H7,I7.unpinned,q7⟩
  | ret v=>obtain ⟨x7,σ7,H7,I7,r7,q7⟩:=q7;exact ⟨x7,σ7,H7,I7.unpinned,r7,q7⟩
end
abbrev R2:=V->V->Hp->VK->Prop
def OpR (X:Cx) (f:Value->Value->Sem Value) (r:R2):Prop:=
 ∀(pins:List (Addr×Obj)) (s:Shared) (σ:St) (H:Hp) (x y:V) (v u:Value) (Q:VK),Inv X pins σ H s->RelV x v->RelV y u->r x y H Q->
  wpAny (model X.prog X.w) X.A (f v u) (EP X pins σ Q) X.xe s
def UnR (X:Cx) (f:Value->Sem Value) (r:V->Hp->VK->Prop):Prop:=
 ∀(pins:List (Addr×Obj)) (s:Shared) (σ:St) (H:Hp) (x:V) (v:Value) (Q:VK),Inv X pins σ H s->RelV x v->r x H Q->
  wpAny (model X.prog X.w) X.A (f v) (EP X pins σ Q) X.xe s
def a2X (X:Cx) (f:Value) (r:List V->Hp->VK->Prop):Prop:=
 ∀(pins:List (Addr×Obj)) (s:Shared) (σ:St) (H:Hp) (xs:List V) (us:List Value) (Q:VK),Inv X pins σ H s->Vals xs us->r xs H Q->
  wpAny (model X.prog X.w) X.A (call f us) (EP X pins σ Q) X.xe s
def TruR (X:Cx) (r:V->Hp->(Bool->Hp->Prop)->Prop):Prop:=
 ∀(pins:List (Addr×Obj)) (s:Shared) (σ:St) (H:Hp) (x:V) (v:Value) (Q:Bool->Hp->Prop),Inv X pins σ H s->RelV x v->r x H Q->
  wpAny (model X.prog X.w) X.A (truthy v) (TP X pins σ Q) X.xe s
def tOp (r:R2) (ta tb:TE):TE:=fun σ H Q=>ta σ H fun x H1=>tb σ H1 fun y H2=>r x y H2 Q
def tUn (r:V->Hp->VK->Prop) (ta:TE):TE:=fun σ H Q=>ta σ H fun x H1=>r x H1 Q
def rI (C:Int->Int->Prop) (g:Int->Int->V):R2:=fun x y H Q=>∃i j,x=.int i/\y=.int j/\C i j/\Q (g i j) H
def rI0 (g:Int->Int->V):R2:=fun x y H Q=>∃i j,x=.int i/\y=.int j/\Q (g i j) H
def rU (g:Int->V):V->Hp->VK->Prop:=fun x H Q=>∃i,x=.int i/\Q (g i) H
section
variable {X:Cx} {a b c:Expr} {ta tb tc:TE} {pos:Pos}
theorem binT (ha:PE X a ta) (hb:PE X b tb) {pins:List (Addr×Obj)} {s:Shared} {σ:St} {H:Hp} {R:V->V->Hp->Prop} (I:Inv X pins σ H s)
  (h:ta σ H fun x H1=>tb σ H1 fun y H2=>R x y H2) {Q:Value->Shared->Prop} {f:Value->Value->Sem Value}
  (hf:∀v u s2 x y H2,Inv X pins σ H2 s2->RelV x v->RelV y u->R x y H2->wpAny (model X.prog X.w) X.A (f v u) Q X.xe s2):
  wpAny (model X.prog X.w) X.A (eval a X.env) (fun v s₁=>wpAny (model X.prog X.w) X.A (eval b X.env) (fun u s₂=>wpAny (model X.prog X.w) X.A (f v u) Q X.xe s₂) X.xe s₁) X.xe s:=by
 refine thn (ha pins s σ H _ I h) fun v s1 ⟨x,H1,I1,r1,q1⟩=>?_
 refine thn (hb pins s1 σ H1 _ I1 q1) fun u s2 ⟨y,H2,I2,r2,q2⟩=>?_
 exact hf v u s2 x y H2 I2 r1 r2 q2
theorem pe_op {op:Operator} {r:R2} (ho:OpR X (binaryOp op) r) (ha:PE X a ta) (hb:PE X b tb):PE X (.BinOp a op b pos) (tOp r ta tb):=by
 intro pins s σ H Q I h
 exact wpAny_BinOp (binT ha hb I h fun v u s2 x y H2 I2 rx ry q=>ho pins s2 σ H2 x y v u Q I2 rx ry q)
theorem pe_un {op:UnaryOp} {r:V->Hp->VK->Prop} (ho:UnR X (unaryOp op) r) (ha:PE X a ta):PE X (.UnaryOp op a pos) (tUn r ta):=by
 intro pins s σ H Q I h
 exact UnaryOp_ (thn (ha pins s σ H _ I h) fun v s1 ⟨x,H1,I1,r1,q1⟩=>ho pins s1 σ H1 x v Q I1 r1 q1)
theorem opI {f:Value->Value->Sem Value} {C:Int->Int->Prop} {g:Int->Int->Int}
  (rule:∀(i j:Int) (t u:Tok) (s:Shared) (Q:Value->Shared->Prop) (E:Value->Shared->Prop),C i j->Q (.int (g i j) s.toks) { s with toks:=s.toks+1 }->wpAny (model X.prog X.w) X.A (f (.int i t) (.int j u)) Q E s):
  OpR X f (rI C fun i j=>.int (g i j)):=by
 intro pins s σ H x y v u Q I rx ry h
 obtain ⟨i,j,rfl,rfl,hc,q⟩:=h
 obtain ⟨t,rfl⟩:=rx
 obtain ⟨t',rfl⟩:=ry
 exact rule i j t t' s _ _ hc ⟨.int (g i j),H,I.tok _,⟨_,rfl⟩,q⟩
theorem opI0 {f:Value->Value->Sem Value} {g:Int->Int->Int}
  (rule:∀(i j:Int) (t u:Tok) (s:Shared) (Q:Value->Shared->Prop) (E:Value->Shared->Prop),Q (.int (g i j) s.toks) { s with toks:=s.toks+1 }->wpAny (model X.prog X.w) X.A (f (.int i t) (.int j u)) Q E s):
  OpR X f (rI0 fun i j=>.int (g i j)):=by
 intro pins s σ H x y v u Q I rx ry h
 obtain ⟨i,j,rfl,rfl,q⟩:=h
 obtain ⟨t,rfl⟩:=rx
 obtain ⟨t',rfl⟩:=ry
 exact rule i j t t' s _ _ ⟨.int (g i j),H,I.tok _,⟨_,rfl⟩,q⟩
theorem opB0 {f:Value->Value->Sem Value} {g:Int->Int->Bool}
  (rule:∀(i j:Int) (t u:Tok) (s:Shared) (Q:Value->Shared->Prop) (E:Value->Shared->Prop),Q (.bool (g i j)) s->wpAny (model X.prog X.w) X.A (f (.int i t) (.int j u)) Q E s):
  OpR X f (rI0 fun i j=>.bl (g i j)):=by
 intro pins s σ H x y v u Q I rx ry h
 obtain ⟨i,j,rfl,rfl,q⟩:=h
 obtain ⟨t,rfl⟩:=rx
 obtain ⟨t',rfl⟩:=ry
 exact rule i j t t' s _ _ ⟨.bl (g i j),H,I,rfl,q⟩
def CDiv (i j:Int):Prop:=0<j/\j<1073741824
def CDivN (i j:Int):Prop:=j≠0/\j.natAbs<1073741824
def CPow (i j:Int):Prop:=0<=j/\j<=1000000/\i.natAbs<2 ^ 64
def CMul (i j:Int):Prop:=(-(2 ^ 64)<i/\i<2 ^ 64)\/(-(2 ^ 64)<j/\j<2 ^ 64)
theorem CMul.ok {i j:Int} (h:CMul i j):IntMulOk i j:=by
 rcases h with ⟨h1,h2⟩|⟨h1,h2⟩
 ·exact .of_left (intBits_le_64 h1 h2)
 ·exact .of_right (intBits_le_64 h1 h2)
theorem op_add:OpR X (binaryOp .Add) (rI0 fun i j=>.int (i+j)):=opI0 fun _ _ _ _ _ _ _ q=>add_int q
theorem op_sub:OpR X (binaryOp .Sub) (rI0 fun i j=>.int (i - j)):=opI0 fun _ _ _ _ _ _ _ q=>sub_int q
theorem op_mul:OpR X (binaryOp .Mult) (rI CMul fun i j=>.int (i * j)):=opI fun _ _ _ _ _ _ _ hc q=>mul_int q hc.ok
theorem op_fdiv:OpR X (binaryOp .FloorDiv) (rI CDiv fun i j=>.int (i / j)):=opI fun i j _ _ _ _ _ hc q=>by
 have h1:(0:Int)<j:=hc.1
 have h2:j<1073741824:=hc.2
 exact floordiv_int (by omega) (by rw [Int.fdiv_eq_ediv_of_nonneg i (by omega)];exact q) (.inl (PyProof.noPylong_small (by omega)))
theorem op_mod:OpR X (binaryOp .Mod) (rI (fun _ j=>0<j) fun i j=>.int (i % j)):=opI fun i j _ _ _ _ _ hc q=>by
 have h1:(0:Int)<j:=hc
 exact mod_int' (by omega) (by rw [Int.fmod_eq_emod_of_nonneg i (by omega)];exact q)
theorem op_pow:OpR X (binaryOp .Pow) (rI CPow fun i j=>.int (i ^ j.toNat)):=opI fun _ _ _ _ _ _ _ hc q=>pow_int_small hc.1 hc.2.1 hc.2.2 q
theorem op_shl:OpR X (binaryOp .LShift) (rI CPow fun i j=>.int (i * 2 ^ j.toNat)):=opI fun _ _ _ _ _ _ _ hc q=>lshift_int_small hc.1 hc.2.1 hc.2.2 q
theorem op_or:OpR X (binaryOp .BitOr) (rI0 fun i j=>.int (Builtin.bitOr i j)):=opI0 fun _ _ _ _ _ _ _ q=>or_int q
theorem unI {f:Value->Sem Value} {g:Int->Int}
  (rule:∀(i:Int) (t:Tok) (s:Shared) (Q:Value->Shared->Prop) (E:Value->Shared->Prop),Q (.int (g i) s.toks) { s with toks:=s.toks+1 }->wpAny (model X.prog X.w) X.A (f (.int i t)) Q E s):
  UnR X f (rU fun i=>.int (g i)):=by
 intro pins s σ H x v Q I rx h
 obtain ⟨i,rfl,q⟩:=h
 obtain ⟨t,rfl⟩:=rx
 exact rule i t s _ _ ⟨.int (g i),H,I.tok _,⟨_,rfl⟩,q⟩
theorem un_neg:UnR X (unaryOp .USub) (rU fun i=>.int (-i)):=unI fun _ _ _ _ _ q=>neg_int q
end
def scal:V->V->Bool
 | .non,.non=>true|.non,.int _=>true|.int _,.non=>true|.non,.bl _=>true|.bl _,.non=>true|.non,.str _=>true|.str _,.non=>true
 | .int _,.int _=>true|.bl _,.bl _=>true|.str _,.str _=>true|.byt _,.byt _=>true
 | .int _,.str _=>true|.str _,.int _=>true|.bl _,.str _=>true|.str _,.bl _=>true
 | _,_=>false
def rEq:R2:=fun x y H Q=>scal x y=true/\Q (.bl (decide (x=y))) H
def rNe:R2:=fun x y H Q=>scal x y=true/\Q (.bl (!decide (x=y))) H
theorem b5z {i j:Int}:decide (V.int i=V.int j)=(i == j):=by
 rw [Bool.eq_iff_iff]
 simp
theorem dec_bl {i j:Bool}:decide (V.bl i=V.bl j)=(i == j):=by
 rw [Bool.eq_iff_iff]
 simp
theorem b5y {i j:Str}:decide (V.str i=V.str j)=(i == j):=by
 rw [Bool.eq_iff_iff]
 simp
theorem b5A {i j:Array UInt8}:decide (V.byt i=V.byt j)=(i.toList == j.toList):=by
 rw [Bool.eq_iff_iff]
 cases i
 cases j
 simp
section
variable {X:Cx} {a b c:Expr} {ta tb tc:TE} {pos:Pos}
theorem a1r {pins:List (Addr×Obj)} {σ:St} {H:Hp} {s:Shared} {Q:VK} {k k':Bool} (I:Inv X pins σ H s) (q:Q (.bl k) H) (e:k=k'):EP X pins σ Q (.bool k') s:=by
 subst e
 exact ⟨.bl k,H,I,rfl,q⟩
theorem op_eq:OpR X (compareOp .Eq) rEq:=by
 intro pins s σ H x y v u Q I rx ry h
 obtain ⟨hs,q⟩:=h
 cases x with
 | non=>
  cases rx
  cases y with
  | non=>cases ry;exact PySem.EqNone.eq_none_none (a1r I q (by simp))
  | bl j=>cases ry;exact PySem.EqNone.eq_none_bool (a1r I q (by simp))
  | int j=>obtain ⟨t',rfl⟩:=ry;exact PySem.EqNone.eq_none_int (a1r I q (by simp))
  | str j=>obtain ⟨t',rfl⟩:=ry;exact PySem.EqNone.eq_none_str (a1r I q (by simp))
  | _=>exact absurd (show false=true from hs) Bool.false_ne_true
 | bl i=>
  cases rx
  cases y with
  | non=>cases ry;exact PySem.EqNone.eq_bool_none (a1r I q (by simp))
  | bl j=>cases ry;exact eq_bool (a1r I q dec_bl)
  | str j=>obtain ⟨t',rfl⟩:=ry;exact PySem.EqMixed.eq_bool_str (a1r I q (by simp))
  | _=>exact absurd (show false=true from hs) Bool.false_ne_true
 | int i=>
  obtain ⟨t,rfl⟩:=rx
  cases y with
  | non=>cases ry;exact PySem.EqNone.eq_int_none (a1r I q (by simp))
  | int j=>obtain ⟨t',rfl⟩:=ry;exact eq_int (a1r I q b5z)
  | str j=>obtain ⟨t',rfl⟩:=ry;exact PySem.EqMixed.eq_int_str (a1r I q (by simp))
  | _=>exact absurd (show false=true from hs) Bool.false_ne_true
 | str i=>
  obtain ⟨t,rfl⟩:=rx
  cases y with
  | non=>cases ry;exact PySem.EqNone.eq_str_none (a1r I q (by simp))
  | bl j=>cases ry;exact PySem.EqMixed.eq_str_bool (a1r I q (by simp))
  | int j=>obtain ⟨t',rfl⟩:=ry;exact PySem.EqMixed.eq_str_int (a1r I q (by simp))
  | str j=>obtain ⟨t',rfl⟩:=ry;exact eq_str (a1r I q b5y)
  | _=>exact absurd (show false=true from hs) Bool.false_ne_true
 | byt i=>
  obtain ⟨t,rfl⟩:=rx
  cases y with
  | byt j=>obtain ⟨t',rfl⟩:=ry;exact PySem.W.eq_bytes (a1r I q b5A)
  | _=>exact absurd (show false=true from hs) Bool.false_ne_true
 | _=>cases y <;> exact absurd (show false=true from hs) Bool.false_ne_true
theorem op_ne:OpR X (compareOp .NotEq) rNe:=by
 intro pins s σ H x y v u Q I rx ry h
 obtain ⟨hs,q⟩:=h
 cases x with
 | non=>
  cases rx
  cases y with
  | non=>cases ry;exact PySem.EqNone.ne_none_none (a1r I q (by simp))
  | bl j=>cases ry;exact PySem.EqNone.ne_none_bool (a1r I q (by simp))
  | int j=>obtain ⟨t',rfl⟩:=ry;exact PySem.EqNone.ne_none_int (a1r I q (by simp))
  | str j=>obtain ⟨t',rfl⟩:=ry;exact PySem.EqNone.ne_none_str (a1r I q (by simp))
  | _=>exact absurd (show false=true from hs) Bool.false_ne_true
 | bl i=>
  cases rx
  cases y with
  | non=>cases ry;exact PySem.EqNone.ne_bool_none (a1r I q (by simp))
  | bl j=>cases ry;exact ne_bool (a1r I q (congrArg not dec_bl))
  | str j=>obtain ⟨t',rfl⟩:=ry;exact PySem.EqMixed.ne_bool_str (a1r I q (by simp))
  | _=>exact absurd (show false=true from hs) Bool.false_ne_true
 | int i=>
  obtain ⟨t,rfl⟩:=rx
  cases y with
  | non=>cases ry;exact PySem.EqNone.ne_int_none (a1r I q (by simp))
  | int j=>obtain ⟨t',rfl⟩:=ry;exact ne_int (a1r I q (congrArg not b5z))
  | str j=>obtain ⟨t',rfl⟩:=ry;exact PySem.EqMixed.ne_int_str (a1r I q (by simp))
  | _=>exact absurd (show false=true from hs) Bool.false_ne_true
 | str i=>
  obtain ⟨t,rfl⟩:=rx
  cases y with
  | non=>cases ry;exact PySem.EqNone.ne_str_none (a1r I q (by simp))
  | bl j=>cases ry;exact PySem.EqMixed.ne_str_bool (a1r I q (by simp))
  | int j=>obtain ⟨t',rfl⟩:=ry;exact PySem.EqMixed.ne_str_int (a1r I q (by simp))
  | str j=>obtain ⟨t',rfl⟩:=ry;exact ne_str (a1r I q (congrArg not b5y))
  | _=>exact absurd (show false=true from hs) Bool.false_ne_true
 | byt i=>
  obtain ⟨t,rfl⟩:=rx
  cases y with
  | byt j=>obtain ⟨t',rfl⟩:=ry;exact PySem.W.ne_bytes (a1r I q (congrArg not b5A))
  | _=>exact absurd (show false=true from hs) Bool.false_ne_true
 | _=>cases y <;> exact absurd (show false=true from hs) Bool.false_ne_true
theorem op_lt:OpR X (compareOp .Lt) (rI0 fun i j=>.bl (decide (i<j))):=opB0 fun _ _ _ _ _ _ _ q=>lt_int q
theorem op_le:OpR X (compareOp .LtE) (rI0 fun i j=>.bl (decide (i<=j))):=opB0 fun _ _ _ _ _ _ _ q=>le_int q
theorem op_gt:OpR X (compareOp .Gt) (rI0 fun i j=>.bl (decide (j<i))):=opB0 fun _ _ _ _ _ _ _ q=>gt_int q
def isObj:HO->Bool
 | .lst _=>true
 | .ins _ _ _=>true
 | _=>false
theorem nomark (b:Expr) {op:CmpOp} (h:op≠.In:=by decide) (h2:op≠.NotIn:=by decide):behindInMarks op b=false:=by
 have e1:(op == CmpOp.In)=false:=by cases op <;> first|rfl|exact absurd rfl h
 have e2:(op == CmpOp.NotIn)=false:=by cases op <;> first|rfl|exact absurd rfl h2
 cases b <;> simp [behindInMarks,e1,e2]
theorem pe_cmpR {op:CmpOp} {r:R2} (ho:OpR X (compareOp op) r) (ha:PE X a ta) (hb:PE X b tb) (hm:behindInMarks op b=false):PE X (.Compare a [op] [b] pos) (tOp r ta tb):=by
 intro pins s σ H Q I h
 exact wpAny_Compare1 (binT ha hb I h fun v u s2 x y H2 I2 rx ry q=>ho pins s2 σ H2 x y v u Q I2 rx ry q) hm
def tTest (t:TE):TT:=fun σ H Q=>t σ H fun x H'=>∃k,x=.bl k/\Q k H'
theorem pt_cmpR {op:CmpOp} {r:R2} (ho:OpR X (compareOp op) r) (ha:PE X a ta) (hb:PE X b tb) (hm:behindInMarks op b=false):PT X (.Compare a [op] [b] pos) (tTest (tOp r ta tb)):=by
 intro pins s σ H Q I h
 refine wpAny_isTrue_Compare1 (thn (ha pins s σ H _ I h) fun v s1 ⟨x,H1,I1,r1,q1⟩=>thn (hb pins s1 σ H1 _ I1 q1) fun u s2 ⟨y,H2,I2,r2,q2⟩=>
  thn (ho pins s2 σ H2 x y v u _ I2 r1 r2 q2) fun c s3 ⟨z,H3,I3,r3,k,e,q3⟩=>?_) hm
 subst e
 cases r3
 exact wpAny_truthy_bool ⟨H3,I3,q3⟩
def tChain (r r':R2) (ta tb tc:TE):TE:=fun σ H Q=>ta σ H fun x H1=>tb σ H1 fun y H2=>r x y H2 fun z H3=>∃k,z=.bl k/\
 (if k=true then tc σ H3 fun w' H4=>r' y w' H4 Q else Q (.bl false) H3)
def TruV (K:Frag) (x:V) (H:Hp) (k:Bool):Prop:=
 match x with
 | .non=>k=false
 | .bl b=>k=b
 | .int i=>k=(i != 0)
 | .str y=>y.length<=sizeLine/\k=((y.length:Int) != 0)
 | .byt y=>y.size<=sizeLine/\k=((y.size:Int) != 0)
 | .ref p=>(∃xs,SqL K H p xs/\k=!xs.isEmpty)\/(∃xs,SqT K H p xs/\k=!xs.isEmpty)\/∃kvs,H p=some (.dK kvs)/\k=!kvs.isEmpty
 | _=>False
theorem a8l:(sizeLine:Nat)<2 ^ 63:=by rw [sizeLine_eq];decide
theorem b2S:OpR X (binaryOp .Add) (fun x y H Q=>∃i j,x=.str i/\y=.str j/\i.length+j.length<=sizeLine/\Q (.str (i++j)) H):=by
 intro pins s σ H x y v u Q I rx ry h
 obtain ⟨i,j,rfl,rfl,hz,q⟩:=h
 obtain ⟨t,rfl⟩:=rx
 obtain ⟨t',rfl⟩:=ry
 exact add_str (fun t' tk=>⟨.str (i++j),H,I.tok _,⟨_,rfl⟩,q⟩) hz
def PlainIxT (b:Expr):Prop:=∀o i,subscripted b false o i=operate [o,i] (getItem o i)
theorem a6d {x:V} {us:List Value} (r:Vals [x] us):∃u,us=[u]/\RelV x u:=by
 cases r with
 | cons r1 r2=>cases r2;exact ⟨_,rfl,r1⟩
theorem vals2 {x y:V} {us:List Value} (r:Vals [x,y] us):∃u w',us=[u,w']/\RelV x u/\RelV y w':=by
 cases r with
 | cons r1 r2=>
  cases r2 with
  | cons r3 r4=>cases r4;exact ⟨_,_,rfl,r1,r3⟩
theorem call_abs:a2X X (.builtin "abs") (fun xs H Q=>∃i,xs=[.int i]/\Q (.int (if i<0 then -i else i)) H):=by
 intro pins s σ H xs us Q I r h
 obtain ⟨i,rfl,q⟩:=h
 obtain ⟨u,rfl,t,rfl⟩:=a6d r
 exact call_abs_int fun u tk=>⟨.int (if i<0 then -i else i),H,I.tok _,⟨_,rfl⟩,q⟩
theorem b5N (hc:X.calm=true):a2X X (.builtin "min") (fun xs H Q=>∃i j,xs=[.int i,.int j]/\Q (.int (if j<i then j else i)) H):=by
 intro pins s σ H xs us Q I r h
 obtain ⟨i,j,rfl,q⟩:=h
 obtain ⟨u,w',rfl,⟨t,rfl⟩,⟨t',rfl⟩⟩:=vals2 r
 refine min_two_ints (I.ok.hd hc) fun h' tk k=>⟨_,H,I.kept k,?_,q⟩
 by_cases hj:j<i
 ·rw [if_pos hj,if_pos hj];exact ⟨_,rfl⟩
 ·rw [if_neg hj,if_neg hj];exact ⟨_,rfl⟩
theorem b0x:a2X X (.type "int") (fun xs H Q=>(∃i,xs=[.int i]/\Q (.int i) H)\/∃k,xs=[.bl k]/\Q (.int (if k then 1 else 0)) H):=by
 intro pins s σ H xs us Q I r h
 rcases h with ⟨i,rfl,q⟩|⟨k,rfl,q⟩
 ·obtain ⟨u,rfl,t,rfl⟩:=a6d r
  exact call_int_int ⟨.int i,H,I,⟨_,rfl⟩,q⟩
 ·obtain ⟨u,rfl,r1⟩:=a6d r
  cases r1
  exact call_int_bool ⟨.int (if k then 1 else 0),H,I.tok _,⟨_,rfl⟩,q⟩
def LenV (K:Frag) (x:V) (H:Hp) (n:Nat):Prop:=
 match x with
 | .str y=>y.length<=sizeLine/\n=y.length
 | .byt y=>y.size<=sizeLine/\n=y.size
 | .ref p=>(∃xs,SqL K H p xs/\n=xs.length)\/∃xs,SqT K H p xs/\n=xs.length
 | _=>False
end
structure ObjM (h:Heap) (x dx C:Addr) (mA:Str->Option Value):Prop where
 obj:h.get? x=some (instObj C dx)
 ns:h.Ns1 dx mA
 ne:dx≠x
theorem b44 {h:Heap} {dx:Addr} {mA:Str->Option Value} (n:h.Ns1 dx mA):∃od,h.get? dx=some od/\∀name,lookIn name od=some (mA name):=by
 obtain ⟨o,es,ep,ho,hd,hk,_,hm⟩:=n
 refine ⟨o,ho,fun name=>?_⟩
 have e:=hm name
 unfold nsFind findBy at e
 rw [←Array.find?_toList] at e
 unfold lookIn
 rw [hd]
 dsimp only
 split
 ·rename_i y q
  rw [q] at e
  exact congrArg some e
 ·rename_i q
  rw [q] at e
  have a:es.toList.any (·.refKey)=false:=by
   rw [List.any_eq_false]
   intro y hy
   obtain ⟨z,t,hkey⟩:=hk y (Array.mem_toList_iff.mp hy)
   simp [DictEntry.refKey,hkey]
  have a':¬es.toList.any (·.refKey)=true:=by rw [a];exact Bool.false_ne_true
  rw [if_neg a']
  exact congrArg some e
theorem ObjM.look {h:Heap} {x dx C:Addr} {mA:Str->Option Value} (I:ObjM h x dx C mA):∃od,PySem.W.InstAt h x (instObj C dx) C (some od)/\∀name,lookIn name od=some (mA name):=
 let ⟨od,ho,hl⟩:=b44 I.ns
 ⟨od,⟨I.obj,rfl,rfl,ho⟩,hl⟩
section
variable {prog:Program} {w:World} {A:Around} {E:Value->Shared->Prop} {s:Shared} {K:Frag} {x dx C f:Addr} {mA:Str->Option Value} {name:Str} {v:Value}
theorem get_map {expr:Bool} {Q:Value->Shared->Prop} (X:K.In s.heap) (I:ObjM s.heap x dx C mA) (hg:plainGet K C name=true) (hh:hasDictIn K C=true)
  (ha:findIn K (.ref C) name=some none) (hv:mA name=some v) (hv':handedIn v=true) (h:Q v { s with toks:=s.toks+1 }):
  wpAny (model prog w) A (getAttr (.ref x) name expr) Q E s:=by
 obtain ⟨od,J,hl⟩:=I.look
 exact PySem.W.get_value X J (plainGet_of hg).1 (PySem.W.findObj_own hh ha rfl (by rw [hl,hv])) hv' h
theorem get_meth {pl:Sem Bool} {Q:Value×List Value->Shared->Prop} (X:K.In s.heap) (I:ObjM s.heap x dx C mA) (hg:plainGet K C name=true)
  (hf:findIn K (.ref C) name=some (some (.ref f))) (ht:isFn K (.ref f)=true) (hv:mA name=none) (h:Q (.ref f,[.ref x]) s):
  wpAny (model prog w) A (getMethod (.ref x) name pl) Q E s:=by
 obtain ⟨od,J,hl⟩:=I.look
 exact PySem.W.method_fn X J (plainGet_of hg).1 (plainGet_of hg).2 hf (beq_iff_eq.mp ht) (by show (lookIn name od).map (·.isSome)=some false;rw [hl,hv];rfl) h
theorem set_map {ns:List Str} {Q:Unit->Shared->Prop} (X:K.In s.heap) (I:ObjM s.heap x dx C mA)
  (hs:findIn K (.ref C) "__setattr__" = some (some (.builtin "object.__setattr__"))) (hp:plainOver K C=true) (ht:takerIn K C name=some none) (hh:hasDictIn K C=true)
  (hw:PySem.Within mA ns) (hsz:ns.length<=sizeLine)
  (h:∀h',ObjM h' x dx C (fun y=>if y=name then some v else mA y)->Heap.SameBut dx s.heap h'->Q () { s with heap:=h',toks:=s.toks+2 }):
  wpAny (model prog w) A (setAttr (.ref x) name v) Q E s:=by
 obtain ⟨od,J,hl⟩:=I.look
 refine PySem.W.set_plain X J hs (PySem.W.osa_open (s:={ s with toks:=s.toks+1 }) (r:=none) X J hp ht fun b=>?_)
 obtain ⟨cd,hc,hd'⟩:=PySem.W.any_some hh
 have hx:s.heap.get? x=some ⟨.ref C,some dx,.plain,#[]⟩:=I.obj
 refine wpAny_bind (wpAny_pure (wpAny_bind (wpAny_bind (wpAny_loadPart hx (wpAny_bind (PySem.W.Looks.here (s:={ s with toks:=s.toks+1 }) (PySem.W.looks_clsIn X hc) ?_))))))
 rw [hd']
 refine wpAny_pure (a:=some dx) (wpAny_bind (wpAny_pure (wpAny_bind ?_)))
 refine wpAny_nsSet1 (s:={ s with toks:=s.toks+1 }) I.ns fun h' hn2 hs2=>?_
 obtain ⟨oD,esD,epD,hoD,hdD,hcD⟩:=hn2.count (PySem.Within.cons name v hw)
 refine wpAny_bind (wpAny_lookBehind hoD (by rw [hdD];exact pastItsLine_dict (le_trans hcD (by rw [length_cons];omega))) ?_)
 exact wpAny_pure (h _ ⟨(hs2.2 _ (Ne.symm I.ne)).trans I.obj,hn2,I.ne⟩ hs2)
theorem make_map {R:Result->Shared->Prop} {vs:List Value} {kw:List (Str×Value)} (X:K.In s.heap) (hm:makesIn K C=true)
  (hi:findIn K (.ref C) "__init__" = some (some (.ref f))) (hf:PySem.W.typeIn K (.ref f)=some (.type "function"))
  (h:codeAny (model prog w) (A.under (.builtin "type.__call__" ⟨.ref C::vs,kw⟩)) (.call (.ref f) ⟨.ref (s.heap.objs.size+1)::vs,kw⟩) (PySem.W.InitBack (s.heap.objs.size+1) R)
   { s with heap:=(s.heap.push emptyDict).push (instObj C s.heap.objs.size) }):
  codeAny (model prog w) A (.call (.ref C) ⟨vs,kw⟩) R s:=by
 obtain ⟨hh,g,d,t,os⟩:=s
 exact PySem.W.make_core (PySem.W.makes_of X hm) (PySem.W.looks_findIn X hi) (fun self=>PySem.W.bind_fn X self hf) (.inl rfl) h
end
def putF (f:Str) (v:V):List (Str×V)->List (Str×V)
 | []=>[(f,v)]
 | (g,x)::r=>if g=f then (g,v)::r else (g,x)::putF f v r
theorem a7o (f g:Str) (v:V):∀fs:List (Str×V),(putF f v fs).lookup g=if g=f then some v else fs.lookup g
 | []=>by
  show List.lookup g [(f,v)]=_
  by_cases h:g=f
  ·have hb:(g == f)=true:=beq_iff_eq.mpr h
   simp only [List.lookup,hb,if_pos h]
  ·have hb:(g == f)=false:=beq_eq_false_iff_ne.mpr h
   simp only [List.lookup,hb,if_neg h]
 | (k,x)::r=>by
  have ih:=a7o f g v r
  rw [show putF f v ((k,x)::r)=(if k=f then (k,v)::r else (k,x)::putF f v r) from rfl]
  by_cases hk:k=f
  ·rw [if_pos hk]
   by_cases h:g=k
   ·have hb:(g == k)=true:=beq_iff_eq.mpr h
    simp only [List.lookup,hb,if_pos (h.trans hk)]
   ·have hb:(g == k)=false:=beq_eq_false_iff_ne.mpr h
    simp only [List.lookup,hb,if_neg (fun e:g=f=>h (e.trans hk.symm))]
  ·rw [if_neg hk]
   by_cases h:g=k
   ·have hb:(g == k)=true:=beq_iff_eq.mpr h
    simp only [List.lookup,hb,if_neg (fun e:g=f=>hk (h.symm.trans e))]
   ·have hb:(g == k)=false:=beq_eq_false_iff_ne.mpr h
    simp only [List.lookup,hb]
    exact ih
theorem a7v (f:Str) (v:V):∀fs:List (Str×V),f∈(putF f v fs).map (·.1)/\∀g,g∈fs.map (·.1)->g∈(putF f v fs).map (·.1)
 | []=>⟨by simp [putF],fun g h=>by simp at h⟩
 | (k,x)::r=>by
  obtain ⟨i1,i2⟩:=a7v f v r
  rw [show putF f v ((k,x)::r)=(if k=f then (k,v)::r else (k,x)::putF f v r) from rfl]
  by_cases hk:k=f
  ·rw [if_pos hk]
   subst hk
   exact ⟨by simp,fun g h=>by simpa using h⟩
  ·rw [if_neg hk]
   refine ⟨?_,fun g h=>?_⟩
   ·rw [map_cons]
    exact mem_cons_of_mem _ i1
   ·rw [map_cons] at h ⊢
    rcases mem_cons.mp h with e|e
    ·exact mem_cons.mpr (.inl e)
    ·exact mem_cons_of_mem _ (i2 g e)
theorem a7r (f:Str) (v:V):∀fs:List (Str×V),(putF f v fs).length<=fs.length+1
 | []=>by simp [putF]
 | (k,x)::r=>by
  have ih:=a7r f v r
  rw [show putF f v ((k,x)::r)=(if k=f then (k,v)::r else (k,x)::putF f v r) from rfl]
  by_cases hk:k=f
  ·rw [if_pos hk,length_cons,length_cons];omega
  ·rw [if_neg hk,length_cons,length_cons];omega
theorem RelO.some_of {v:V} {o:Option Value} (r:RelO (some v) o):∃u,o=some u/\RelV v u:=by
 cases o with
 | none=>exact (show False from r).elim
 | some u=>exact ⟨u,rfl,r⟩
theorem RelO.none_of {o:Option Value} (r:RelO none o):o=none:=by
 cases o with
 | none=>rfl
 | some u=>exact (show False from r).elim
theorem b5m {v:V} {u:Value} (r:RelV v u):handedIn u=true:=by
 cases v with
 | non=>cases (show u=Value.none from r);rfl
 | bl b=>cases (show u=Value.bool b from r);rfl
 | int i=>obtain ⟨t,e⟩:=(show ∃t,u=Value.int i t from r);cases e;rfl
 | str x=>obtain ⟨t,e⟩:=(show ∃t,u=Value.str x t from r);cases e;rfl
 | byt b=>obtain ⟨t,e⟩:=(show ∃t,u=Value.bytes b t from r);cases e;rfl
 | flt b=>obtain ⟨t,e⟩:=(show ∃t,u=Value.float b t from r);cases e;rfl
 | ref a=>cases (show u=Value.ref a from r);rfl
 | ty n=>cases (show u=Value.type n from r);rfl
section
variable {P:Program} {w:World} {H H':Hp} {h h':Heap} {a C dx:Addr} {fs fs':List (Str×V)}
theorem a86 (hok:HOk P w H h) (e:H a=some (.ins C dx fs)):∃mA,ObjM h a dx C mA/\(∀f,RelO (fs.lookup f) (mA f))/\PySem.Within mA (fs.map (·.1))/\fs.length<=1000/\H dx=some (.own a):=by
 obtain ⟨d,z,ne,ob,mA,n,r,q⟩:=(show a3G P w H h a (.ins C dx fs) from hok a _ e)
 exact ⟨mA,⟨ob,n,ne⟩,r,q,z,d⟩
end
structure Cls (K:Frag) (C:Addr):Prop where
 pg:plainGet K C Str.empty=true
 hd:hasDictIn K C=true
 po:plainOver K C=true
 sa:findIn K (.ref C) "__setattr__" = some (some (.builtin "object.__setattr__"))
theorem Cls.get {K:Frag} {C:Addr} (c:Cls K C) (f:Str):plainGet K C f=true:=c.pg
def a2v (K:Frag) (C:Addr) (f:Str):Prop:=findIn K (.ref C) f=some none
theorem a2v.taker {K:Frag} {C:Addr} {f:Str} (n:a2v K C f):takerIn K C f=some none:=by
 unfold takerIn
 rw [show findIn K (.ref C) f=some none from n]
 rfl
structure Con (K:Frag) (C:Addr) (f:Str) (v:V) (u:Value):Prop where
 at_:findIn K (.ref C) f=some (some u)
 rel:RelV v u
 get:specialIn K u "__get__" = some none
 cp:PySem.W.copiedNames.contains f=false
structure Meth (K:Frag) (C:Addr) (m:Str) (f:Addr):Prop where
 at_:findIn K (.ref C) m=some (some (.ref f))
 fn:isFn K (.ref f)=true
 kp:keepIn K (.ref f)=true
section
variable {X:Cx} {pins:List (Addr×Obj)} {σ:St} {H:Hp} {s:Shared} {a C dx:Addr} {fs:List (Str×V)} {f:Str} {v:V} {A:Around} {E:Value->Shared->Prop}
theorem b3q {b:Bool} {Q:Value->Shared->Prop} (I:Inv X pins σ H s) (e:H a=some (.ins C dx fs)) (c:Cls X.K C) (n:a2v X.K C f) (l:fs.lookup f=some v)
  (h:∀u s',Inv X pins σ H s'->RelV v u->Q u s'):wpAny (model X.prog X.w) A (getAttr (.ref a) f b) Q E s:=by
 obtain ⟨mA,O,r,_,_,_⟩:=a86 I.hok e
 obtain ⟨u,hu,ru⟩:=RelO.some_of (v:=v) (o:=mA f) (by rw [←l];exact r f)
 exact get_map I.kIn O (c.get f) c.hd n hu (b5m ru) (h u _ (I.tok _) ru)
theorem b3p {m:Str} {g:Addr} {pl:Sem Bool} {Q:Value×List Value->Shared->Prop} (I:Inv X pins σ H s) (e:H a=some (.ins C dx fs)) (c:Cls X.K C) (k:Meth X.K C m g) (l:fs.lookup m=none)
  (h:Q (.ref g,[.ref a]) s):wpAny (model X.prog X.w) A (getMethod (.ref a) m pl) Q E s:=by
 obtain ⟨mA,O,r,_,_,_⟩:=a86 I.hok e
 have hn:mA m=none:=RelO.none_of (by rw [←l];exact r m)
 exact get_meth I.kIn O (c.get m) k.at_ k.fn hn h
theorem b2D {y:V} {u:Value} {Q:Unit->Shared->Prop} (I:Inv X pins σ H s) (e:H a=some (.ins C dx fs)) (c:Cls X.K C) (n:a2v X.K C f) (hl:fs.length<1000) (ry:RelV y u)
  (h:∀s',Inv X pins σ (upd H a (.ins C dx (putF f y fs))) s'->Q () s'):wpAny (model X.prog X.w) A (setAttr (.ref a) f u) Q E s:=by
 obtain ⟨mA,O,r,wi,_,ho⟩:=a86 I.hok e
 have hz:(fs.map (·.1)).length<=sizeLine:=by rw [length_map,sizeLine_eq];omega
 refine set_map I.kIn O c.sa c.po n.taker c.hd wi hz fun h' O' sb=>h _ ?_
 have hd:∃o,h'.get? dx=some o:=let ⟨o,_,_,e',_⟩:=O'.ns;⟨o,e'⟩
 refine I.write (x:=a) (e:=dx) (by rw [e];exact True.intro) (.inr ho) (fun b q hb z=>(sb.2 b hb).trans z) hd ?_
 refine ⟨by rw [a0S O.ne];exact ho,?_,O.ne,O'.obj,_,O'.ns,fun g=>?_,fun g hg=>?_⟩
 ·have:=a7r f y fs;omega
 ·show RelO ((putF f y fs).lookup g) (if g=f then some u else mA g)
  rw [a7o]
  by_cases q:g=f
  ·rw [if_pos q,if_pos q];exact ry
  ·rw [if_neg q,if_neg q];exact r g
 ·by_cases q:g=f
  ·rw [q];exact (a7v f y fs).1
  ·refine (a7v f y fs).2 g (wi g fun z=>hg ?_)
   show (if g=f then some u else mA g)=none
   rw [if_neg q];exact z
theorem Inv.made (I:Inv X pins σ H s):Inv X pins σ (upd (upd H s.heap.objs.size (.own (s.heap.objs.size+1))) (s.heap.objs.size+1) (.ins C s.heap.objs.size []))
  { s with heap:=(s.heap.push emptyDict).push (instObj C s.heap.objs.size) }:=by
 have e1:(s.heap.push emptyDict).get? s.heap.objs.size=some emptyDict:=get?_push_size s.heap rfl
 have e2:((s.heap.push emptyDict).push (instObj C s.heap.objs.size)).get? (s.heap.objs.size+1)=some (instObj C s.heap.objs.size):=by
  have:=get?_push_size (s.heap.push emptyDict) (o:=instObj C s.heap.objs.size) rfl
  rwa [size_push] at this
 have e3:(s.heap.push emptyDict).Ns s.heap.objs.size (fun _=>none):=⟨emptyDict,#[],_,e1,rfl,(fun e he=>absurd he (by simp)),fun _=>rfl⟩
 have I1:=I.laid (a:=s.heap.objs.size) (o:=.own (s.heap.objs.size+1)) (h':=s.heap.push emptyDict) (t':=s.toks) (fun b u q=>get?_push_of_some _ q) (le_refl _) ⟨_,e1⟩
 refine I1.laid (a:=s.heap.objs.size+1) (o:=.ins C s.heap.objs.size []) (t':=s.toks) (fun b u q=>get?_push_of_some _ q) (le_of_eq (size_push _ _)) ?_
 have ne:s.heap.objs.size≠s.heap.objs.size+1:=ne_of_lt (lt_succ_self _)
 refine ⟨by rw [a0S ne,a0W],zero_le _,ne,e2,fun _=>none,(Heap.Ns1.of_empty e3).at fun o q=>get?_push_of_some _ q,fun _=>True.intro,fun y hy=>absurd rfl hy⟩
theorem attr_of {prog:Program} {w:World} {env:Env} {e:Expr} {f:Str} {pos:Pos} {s:Shared} {Q:Value->Shared->Prop} (hb:attributeBase e f env (eval e env)=eval e env)
  (h:wpAny (model prog w) A (eval e env) (fun o s₁=>wpAny (model prog w) A (getAttr o f true) Q E s₁) E s):wpAny (model prog w) A (eval (.Attribute e f pos) env) Q E s:=
 Attribute_any_ h (by rw [arm_eval_Attribute,hb])
end
def tFld (K:Frag) (ta:TE) (f:Str):TE:=fun σ H Q=>ta σ H fun x H1=>∃a C dx fs v,x=.ref a/\H1 a=some (.ins C dx fs)/\Cls K C/\a2v K C f/\fs.lookup f=some v/\Q v H1
def tCon (K:Frag) (ta:TE) (f:Str):TE:=fun σ H Q=>ta σ H fun x H1=>∃a C dx fs v u,x=.ref a/\H1 a=some (.ins C dx fs)/\Cls K C/\Con K C f v u/\fs.lookup f=none/\Q v H1
def sFld (K:Frag) (ta tv:TE) (f:Str):TS:=fun D σ H=>tv σ H fun y H1=>ta σ H1 fun x H2=>∃a C dx fs,x=.ref a/\H2 a=some (.ins C dx fs)/\Cls K C/\a2v K C f/\fs.length<1000/\
 D.nx σ (upd H2 a (.ins C dx (putF f y fs)))
def InOp (X:Cx) (op:Operator) (rd:V->V->Hp->VK->Prop):Prop:=
 ∀(pins:List (Addr×Obj)) (s:Shared) (σ:St) (H:Hp) (x y:V) (u v:Value) (Q:VK),Inv X pins σ H s->RelV x u->RelV y v->rd x y H Q->wpAny (model X.prog X.w) X.A (inplaceOp op u v) (EP X pins σ Q) X.xe s
def sFldAug (K:Frag) (ta tv:TE) (rd:V->V->Hp->VK->Prop) (f:Str):TS:=fun D σ H=>ta σ H fun x H1=>∃a C dx fs v,x=.ref a/\H1 a=some (.ins C dx fs)/\Cls K C/\a2v K C f/\fs.lookup f=some v/\
 tv σ H1 fun y H2=>rd v y H2 fun z H3=>∃dx' fs',H3 a=some (.ins C dx' fs')/\fs'.length<1000/\D.nx σ (upd H3 a (.ins C dx' (putF f z fs')))
section
variable {X:Cx} {o e value:Expr} {f:Str} {pos pos' tpos:Pos} {ta tv:TE}
theorem pe_fld (he:PE X e ta) (hb:attributeBase e f X.env (eval e X.env)=eval e X.env):PE X (.Attribute e f pos) (tFld X.K ta f):=by
 intro pins s σ H Q I h
 refine attr_of hb (thn (he pins s σ H _ I h) fun u s1 ⟨x,H1,I1,rx,a,C,dx,fs,v,ex,ea,c,n,l,q⟩=>?_)
 subst ex
 obtain rfl:u=Value.ref a:=rx
 exact b3q I1 ea c n l fun u' s2 I2 ru=>⟨v,H1,I2,ru,q⟩
theorem ps_fld (ha:PE X o ta) (hv:PE X value tv) (hs:swapsWith value (some (.Attribute o f pos')) pos.line X.env=pure false):PS X (.Assign [.Attribute o f pos'] value pos) (sFld X.K ta tv f):=by
 intro pins s σ H D I h
 refine plainObj_wpAny_Assign_Attribute (thn (hv pins s σ H _ I h) fun u s1 ⟨y,H1,I1,ry,q⟩=>thn (ha pins s1 σ H1 _ I1 q) fun ov s2 ⟨x,H2,I2,rx,a,C,dx,fs,ex,ea,c,n,l,q2⟩=>?_) hs
 subst ex
 obtain rfl:ov=Value.ref a:=rx
 exact b2D I2 ea c n l ry fun s3 I3=>⟨σ,_,I3,q2⟩
def rAdd:V->V->Hp->VK->Prop:=fun x y H Q=>∃i j,x=.int i/\y=.int j/\Q (.int (i+j)) H
def rSub:V->V->Hp->VK->Prop:=fun x y H Q=>∃i j,x=.int i/\y=.int j/\Q (.int (i - j)) H
end
section
variable {X:Cx} {pins:List (Addr×Obj)} {σ:St} {H:Hp} {s:Shared} {A:Around} {E:Value->Shared->Prop} {Q:Value->Shared->Prop} {c:Value} {b:Bool}
inductive TyOf (K:Frag) (H:Hp):V->Value->Prop where
 | non:TyOf K H .non (.type "NoneType")
 | bl (x:Bool):TyOf K H (.bl x) (.type "bool")
 | int (i:Int):TyOf K H (.int i) (.type "int")
 | str (x:Str):TyOf K H (.str x) (.type "str")
 | flt (x:UInt64):TyOf K H (.flt x) (.type "float")
 | lst {a:Addr} {xs:List V} (e:H a=some (.lst xs)):TyOf K H (.ref a) (.type "list")
 | frz {a:Addr} {o:Obj} {xs:List V} (e:H a=some (.frz o (.lst xs))):TyOf K H (.ref a) (.type "list")
 | tup {a:Addr} {xs:List V} (e:H a=some (.tup xs)):TyOf K H (.ref a) (.type "tuple")
 | dK {a:Addr} {kvs:List (Key×V)} (e:H a=some (.dK kvs)):TyOf K H (.ref a) (.type "dict")
 | dT {a:Addr} {kvs:List (List Key×V)} (e:H a=some (.dT kvs)):TyOf K H (.ref a) (.type "dict")
 | ins {a C dx:Addr} {fs:List (Str×V)} (e:H a=some (.ins C dx fs)) (cl:Cls K C) (ha:findIn K (.ref C) "__class__" = some (some (.builtin "object.__class__")))
   (hn:specialIn K (.builtin "object.__class__") "__get__" = some (some (.builtin "getset_descriptor.__get__"))) (htk:takesIn K (.builtin "object.__class__")=some true)
   (hm:mroIn K C (.type "object")=some true):TyOf K H (.ref a) (.ref C)
theorem b5d {x:V} {u t:Value} (I:Inv X pins σ H s) (rx:RelV x u) (ty:TyOf X.K H x t) (e:kitOne X.K t c=some b) (h:∀tk,Q (.bool b) { s with toks:=tk }):
  wpAny (model X.prog X.w) A (call (.builtin "isinstance") [u,c]) Q E s:=by
 cases ty with
 | non=>cases (show u=Value.none from rx);exact kia_one PySem.W.kitx_none I.kIn True.intro e (fun z=>nomatch z) h
 | bl y=>cases (show u=Value.bool y from rx);exact kia_one PySem.W.kitx_bool I.kIn True.intro e (fun z=>nomatch z) h
 | int i=>obtain ⟨t,q⟩:=(show ∃t,u=Value.int i t from rx);cases q;exact kia_one PySem.W.kitx_int I.kIn True.intro e (fun z=>nomatch z) h
 | str y=>obtain ⟨t,q⟩:=(show ∃t,u=Value.str y t from rx);cases q;exact kia_one PySem.W.kitx_str I.kIn True.intro e (fun z=>nomatch z) h
 | flt y=>obtain ⟨t,q⟩:=(show ∃t,u=Value.float y t from rx);cases q;exact kia_one PySem.W.kitx_float I.kIn True.intro e (fun z=>nomatch z) h
 | @lst a xs ea=>
  cases (show u=Value.ref a from rx)
  obtain ⟨_,_,n,_,h1⟩:=(show a3G X.prog X.w H s.heap a (.lst xs) from I.hok a _ ea)
  exact kia_one kitx_list I.kIn ⟨_,h1,rfl⟩ e (fun z=>nomatch z) h
 | @frz a ob xs ea=>
  cases (show u=Value.ref a from rx)
  obtain ⟨_,_,_,n,_,h1⟩:=(show a3G X.prog X.w H s.heap a (.frz ob (.lst xs)) from I.hok a _ ea)
  exact kia_one kitx_list I.kIn ⟨_,h1,rfl⟩ e (fun z=>nomatch z) h
 | @tup a xs ea=>
  cases (show u=Value.ref a from rx)
  obtain ⟨_,_,_,p⟩:=(show a3G X.prog X.w H s.heap a (.tup xs) from I.hok a _ ea)
  obtain ⟨o,h1,h2,_⟩:=p
  exact kia_one PySem.W.kitx_tuple I.kIn ⟨o,h1,h2⟩ e (fun z=>nomatch z) h
 | @dK a kvs ea=>
  cases (show u=Value.ref a from rx)
  obtain ⟨_,_,vs,_,p⟩:=(show a3G X.prog X.w H s.heap a (.dK kvs) from I.hok a _ ea)
  obtain ⟨o,es,ep,h1,h2,_⟩:=p
  exact kia_one kitx_dict I.kIn ⟨o,h1,h2.1⟩ e (fun z=>nomatch z) h
 | @dT a kvs ea=>
  cases (show u=Value.ref a from rx)
  obtain ⟨_,_,xs,_,o,es,ep,h1,h2,_⟩:=(show a3G X.prog X.w H s.heap a (.dT kvs) from I.hok a _ ea)
  exact kia_one kitx_dict I.kIn ⟨o,h1,h2.1⟩ e (fun z=>nomatch z) h
 | @ins a C dx fs ea cl ha hn htk hm=>
  cases (show u=Value.ref a from rx)
  obtain ⟨mA,O,_⟩:=a86 I.hok ea
  obtain ⟨od,J,_⟩:=O.look
  exact kia_one (PySem.W.kitx_own (cl.get _) cl.hd ha hn htk hm) I.kIn J e (fun z=>nomatch z) h
end
structure Room (k:Nat) (A:Around):Prop where
 hd:A.handled=none
 dp:A.depth+3 * k+5<recursionLimit
 un:A.units+16 * k+200<cLine
theorem Room.mono {j k:Nat} {A:Around} (r:Room k A) (h:j<=k):Room j A:=⟨r.hd,by have:=r.dp;omega,by have:=r.un;omega⟩
theorem Room.deeper {k:Nat} {A:Around} (r:Room (k+1) A) (env:Env):Room k (A.deeper env):=
 ⟨r.hd,by have:=r.dp;show A.depth+1+3 * k+5<_;omega,by have:=r.un;show A.units+3+16 * k+200<_;omega⟩
theorem b3b {A:Around} {C:Addr} {us:List Value} {kw:List (Str×Value)}:(A.under (.builtin "type.__call__" ⟨.ref C::us,kw⟩)).depth=A.depth+1:=by
 first|rfl|simp [Around.under,Code.weight,Code.isCreation,Code.isGuard,Code.isCaller,Code.frames,Code.isFrame,guardIds]
theorem b3a {A:Around} {C:Addr} {us:List Value} {kw:List (Str×Value)}:(A.under (.builtin "type.__call__" ⟨.ref C::us,kw⟩)).units=A.units+1:=by
 first|rfl|simp [Around.under,Code.cUnits,Code.frames,Code.isFrame]
theorem Room.make {k:Nat} {A:Around} (r:Room (k+1) A) (C:Addr) (us:List Value) (kw:List (Str×Value)):Room k (A.under (.builtin "type.__call__" ⟨.ref C::us,kw⟩)):=
 ⟨r.hd,by have:=r.dp;rw [b3b];omega,by have:=r.un;rw [b3a];omega⟩
theorem Room.depth {k:Nat} {A:Around} (r:Room k A):A.depth<recursionLimit:=by have:=r.dp;omega
def tNil:TA:=fun _ H Q=>Q [] H
def tCons (ta:TE) (tr:TA):TA:=fun σ H Q=>ta σ H fun x H1=>tr σ H1 fun xs H2=>Q (x::xs) H2
section
variable {X:Cx} {e:Expr} {es:List Expr} {te:TE} {t:TA} {pos:Pos}
theorem a5b:PA X [] tNil:=fun _ _ _ _ H Q I h=>Calls.spliced_nil ⟨[],H,I,.nil,h⟩
theorem a2j (ha:PE X e te) (hr:PA X es t) (hs:starEach (e::es) X.env=(false,eval e X.env)::starEach es X.env:=by rfl):PA X (e::es) (tCons te t):=by
 intro pos pins s σ H Q I h
 rw [hs]
 show wpAny _ _ (spliced ((false,eval e X.env)::backTo pos (starEach es X.env))) _ _ s
 refine Calls.spliced_cons (thn (ha pins s σ H _ I h) fun u s1 ⟨x,H1,I1,r1,q1⟩=>?_)
 exact thn (hr pos pins s1 σ H1 _ I1 q1) fun us s2 ⟨xs,H2,I2,r2,q2⟩=>⟨x::xs,H2,I2,.cons r1 r2,q2⟩
def tTup (t:TA):TE:=fun σ H Q=>t σ H fun xs H1=>xs.length<=sizeLine/\∀p,H1 p=none->Q (.ref p) (upd H1 p (.tup xs))
def tLst (t:TA):TE:=fun σ H Q=>t σ H fun xs H1=>xs.length<=sizeLine/\∀p,H1 p=none->Q (.ref p) (upd H1 p (.lst xs))
theorem pe_tup {x1} (h:PA X es t):PE X (.Tuple es x1 pos) (tTup t):=by
 intro pins s σ H Q I hq
 refine wpAny_Tuple_spliced (thn (h pos pins s σ H _ I hq) fun us s1 ⟨xs,H1,I1,r,z,q⟩=>⟨by rw [←r.length];exact z,?_⟩)
 have hf:H1 s1.heap.objs.size=none:=I1.hok.fresh (le_refl _)
 refine ⟨.ref s1.heap.objs.size,upd H1 s1.heap.objs.size (.tup xs),I1.laid (t':=s1.toks) (fun b u e=>get?_push_of_some _ e) (le_refl _) ?_,rfl,q _ hf⟩
 exact ⟨z,us,r,⟨_,get?_push_size _ rfl,rfl,_,rfl⟩⟩
theorem pe_lst (h:PA X es t):PE X (.List es pos) (tLst t):=by
 intro pins s σ H Q I hq
 refine wpAny_List_spliced (thn (h pos pins s σ H _ I hq) fun us s1 ⟨xs,H1,I1,r,z,q⟩=>⟨by rw [←r.length];exact z,?_⟩)
 have hf:H1 s1.heap.objs.size=none:=I1.hok.fresh (le_refl _)
 refine ⟨.ref s1.heap.objs.size,upd H1 s1.heap.objs.size (.lst xs),I1.laid (t':=s1.toks) (fun b u e=>get?_push_of_some _ e) (le_refl _) ?_,rfl,q _ hf⟩
 exact ⟨z,us,0,r,get?_push_size _ rfl⟩
end
abbrev Sp:=List V->Hp->VK->XK->Prop
abbrev CXT:=List Env->Hp->Shared->XK->Value->Shared->Prop
structure Env0 (P:Program) (w:World) (K:Frag) (mg:Str->Option Value) (base:Heap) (A:Around) (outer:List Env) (s:Shared) (H:Hp):Prop where
 frames:A.frames=some outer
 mod:Mod K mg base
 bs:∀b o,base.get? b=some o->s.heap.get? b=some o/\H b=none
 bsz:base.objs.size<=s.heap.objs.size
 funs:s.heap.FunFrames base outer
 frf:∀b∈frs outer,H b=none
 hok:HOk P w H s.heap
 bare:AllBare s.gens
def CE (outer:List Env) (P:Program) (w:World) (H:Hp) (s:Shared) (Q:VK) (u:Value) (s':Shared):Prop:=
 ∃v H',s'.os=s.os/\AllBare s'.gens/\Un (frs outer) [] H H' s.heap s'.heap/\HOk P w H' s'.heap/\RelV v u/\Q v H'
def CR (CX:CXT) (outer:List Env) (P:Program) (w:World) (H:Hp) (s:Shared) (Q:VK) (E:XK) (r:Result) (s':Shared):Prop:=
 match r with
 | .ok (.ret u)=>CE outer P w H s Q u s'
 | .ok _=>False
 | .error e=>CX outer H s E e s'
structure FnOk (P:Program) (w:World) (K:Frag) (mg:Str->Option Value) (base:Heap) (CX:CXT) (k:Nat) (f:Addr) (fd:FuncData) (ps:List Str) (sp:Sp):Prop where
 len:∀vs H Q E,sp vs H Q E->vs.length=ps.length
 run:∀(A:Around) (outer:List Env) (s:Shared) (H:Hp) (args:Args) (us:List Value) (vs:List V) (Q:VK) (E:XK),Room k A->Env0 P w K mg base A outer s H->BindsTo s fd args (ps.zip us)->Vals vs us->sp vs H Q E->
  codeAny (model P w) A (.call (.ref f) args) (CR CX outer P w H s Q E) s
theorem FnOk.imp {P:Program} {w:World} {K:Frag} {mg:Str->Option Value} {base:Heap} {CX:CXT} {k:Nat} {f:Addr} {fd:FuncData} {ps:List Str} {sp sp':Sp} (F:FnOk P w K mg base CX k f fd ps sp)
  (h:∀vs H Q E,sp' vs H Q E->sp vs H Q E):FnOk P w K mg base CX k f fd ps sp':=
 ⟨fun vs H Q E q=>F.len vs H Q E (h _ _ _ _ q),fun A outer s H args us vs Q E hr he hb hv hs=>F.run A outer s H args us vs Q E hr he hb hv (h _ _ _ _ hs)⟩
theorem Env0.make {P:Program} {w:World} {K:Frag} {mg:Str->Option Value} {base:Heap} {A:Around} {outer:List Env} {s:Shared} {H:Hp} (e:Env0 P w K mg base A outer s H) (C:Addr) (us:List Value) (kw:List (Str×Value)):
  Env0 P w K mg base (A.under (.builtin "type.__call__" ⟨.ref C::us,kw⟩)) outer s H:=⟨by first|exact e.frames|(simpa [Around.under,Code.envs,Code.isFrame,pushEnvs] using e.frames),e.mod,e.bs,e.bsz,e.funs,e.frf,e.hok,e.bare⟩
section
variable {X:Cx} {pins:List (Addr×Obj)} {σ:St} {H:Hp} {s s':Shared}
theorem Inv.env0 (I:Inv X pins σ H s):Env0 X.prog X.w X.K X.mg X.base X.A X.stack s H:=
 ⟨I.ok.frames,I.ok.mod,I.bs,le_trans I.ok.bsz I.sz,I.stack,I.stkFree,I.hok,I.bare⟩
theorem Inv.after {Q:VK} {u:Value} (I:Inv X pins σ H s) (h:CE X.stack X.prog X.w H s Q u s'):EP X pins σ Q u s':=by
 obtain ⟨v,H',os,bare,un,hok,r,q⟩:=h
 obtain ⟨hh,g,d,t,os'⟩:=s'
 obtain rfl:os'=s.os:=os
 exact ⟨v,H',I.call (h':=hh) (g':=g) (d':=d) (t':=t) (ch:=[]) un hok bare (fun b z=>absurd z (by simp)),r,q⟩
end
def tCall (sp:Sp) (dvs:List V) (E:XK) (t:TA):TE:=fun σ H Q=>t σ H fun vs H1=>sp (vs++dvs) H1 Q E
def tMeth (C:Addr) (m:Str) (sp:Sp) (dvs:List V) (E:XK) (ta:TE) (t:TA):TE:=fun σ H Q=>ta σ H fun x H1=>∃a dx fs,x=.ref a/\H1 a=some (.ins C dx fs)/\fs.lookup m=none/\
 t σ H1 fun vs H2=>sp (x::(vs++dvs)) H2 Q E
def tMake (C:Addr) (sp:Sp) (dvs:List V) (E:XK) (t:TA):TE:=fun σ H Q=>t σ H fun vs H1=>∀x dx,H1 x=none->H1 dx=none->dx≠x->
 sp (.ref x::(vs++dvs)) (upd (upd H1 dx (.own x)) x (.ins C dx [])) (fun v H2=>v=.non/\Q (.ref x) H2) E
def a5s (K:Frag) (fd:FuncData) (ps:List Str) (ds:List Value):Prop:=
 ∀(s:Shared) (us:List Value),K.In s.heap->(us++ds).length=ps.length->BindsTo s fd ⟨us,[]⟩ (ps.zip (us++ds))
theorem a5s.all {K:Frag} {fd:FuncData} {ps:List Str} (h:∀us:List Value,us.length=ps.length->bindArgs fd ⟨us,[]⟩=pure (ps.zip us)):a5s K fd ps []:=fun s us _ hl=>by
 rw [append_nil] at hl ⊢
 exact .of_eq (h us hl)
def a8v (CX:CXT) (X:Cx) (E:XK):Prop:=∀(pins:List (Addr×Obj)) (σ:St) (H:Hp) (s:Shared) (e:Value) (s':Shared),Inv X pins σ H s->CX X.stack H s E e s'->X.xe e s'
section
variable {X:Cx} {CX:CXT} {k:Nat} {f C:Addr} {fd:FuncData} {ps:List Str} {sp:Sp} {dvs:List V} {ds:List Value} {E:XK} {x m:Str} {p pos apos:Pos} {e o:Expr} {es:List Expr} {ta:TE} {t:TA}
theorem b4j {pins:List (Addr×Obj)} {σ:St} {H:Hp} {s:Shared} {Q:VK} {us:List Value} {vs:List V} (F:FnOk X.prog X.w X.K X.mg X.base CX k f fd ps sp) (hr:Room k X.A) (hb:a5s X.K fd ps ds) (hd:Vals dvs ds) (hx:a8v CX X E)
  (I:Inv X pins σ H s) (r:Vals vs us) (h:sp (vs++dvs) H Q E):wpAny (model X.prog X.w) X.A (call (.ref f) us) (EP X pins σ Q) X.xe s:=by
 have r2:Vals (vs++dvs) (us++ds):=r.append hd
 have hl:(us++ds).length=ps.length:=by rw [←r2.length];exact F.len _ _ _ _ h
 refine wpAny_call (codeAny_mono (F.run X.A X.stack s H ⟨us,[]⟩ (us++ds) (vs++dvs) Q E hr I.env0 (hb s us I.kIn hl) r2 h) fun r s' hq=>?_)
 cases r with
 | error e=>exact hx pins σ H s e s' I hq
 | ok fl=>
  cases fl with
  | ret u=>exact I.after hq
  | next=>exact False.elim hq
  | brk=>exact False.elim hq
  | cont=>exact False.elim hq
theorem pe_call (F:FnOk X.prog X.w X.K X.mg X.base CX k f fd ps sp) (hr:Room k X.A) (hg:Gl X x) (hm:X.mg x=some (.ref f)) (hk:keepIn X.K (.ref f)=true) (hb:a5s X.K fd ps ds) (hd:Vals dvs ds) (hx:a8v CX X E)
  (ha:PA X (e::es) t) (hdb:(x == ("__debug__" : Str))=false:=by decide) (he:starEach (e::es) X.env=(false,eval e X.env)::starEach es X.env:=by rfl) (hpl:(backTo pos (starEach es X.env)).any (·.1)=false:=by rfl):
  PE X (.Call (.Name x p) (e::es) [] pos) (tCall sp dvs E t):=by
 intro pins s σ H Q I h
 refine wpAny_Call_Name_kw (a80 I hg hm ?_ hdb)
 refine callWith_K (h₀:=X.base) I.ok.mod.kin hk (thn (ha pos pins s σ H _ I h) fun us s1 ⟨vs,H1,I1,r,q⟩=>⟨I1.kIn,?_⟩) he hpl
 exact b4j F hr hb hd hx I1 r q
structure Mk (K:Frag) (C f:Addr):Prop where
 makes:makesIn K C=true
 init:findIn K (.ref C) "__init__" = some (some (.ref f))
 fn:isFn K (.ref f)=true
 kp:keepIn K (.ref C)=true
theorem b1R {pins:List (Addr×Obj)} {σ:St} {H:Hp} {s:Shared} {Q:VK} {us:List Value} {vs:List V} (M:Mk X.K C f) (F:FnOk X.prog X.w X.K X.mg X.base CX k f fd ps sp) (hr:Room (k+1) X.A) (hb:a5s X.K fd ps ds) (hd:Vals dvs ds)
  (hx:a8v CX X E) (I:Inv X pins σ H s) (r:Vals vs us)
  (h:∀x dx,H x=none->H dx=none->dx≠x->sp (.ref x::(vs++dvs)) (upd (upd H dx (.own x)) x (.ins C dx [])) (fun v H2=>v=.non/\Q (.ref x) H2) E):
  wpAny (model X.prog X.w) X.A (call (.ref C) us) (EP X pins σ Q) X.xe s:=by
 have hq:=h (s.heap.objs.size+1) s.heap.objs.size (I.hok.fresh (Nat.le_succ _)) (I.hok.fresh (le_refl _)) (ne_of_lt (lt_succ_self _))
 have I2:=Inv.made (C:=C) I
 have r2:Vals (V.ref (s.heap.objs.size+1)::(vs++dvs)) (Value.ref (s.heap.objs.size+1)::(us++ds)):=.cons rfl (r.append hd)
 have hl:(Value.ref (s.heap.objs.size+1)::us++ds).length=ps.length:=by
  have e:=r2.length
  rw [F.len _ _ _ _ hq] at e
  exact e.symm
 refine wpAny_call (make_map (f:=f) I.kIn M.makes M.init (beq_iff_eq.mp M.fn) (codeAny_mono (F.run _ X.stack _ _ ⟨Value.ref (s.heap.objs.size+1)::us,[]⟩ (Value.ref (s.heap.objs.size+1)::(us++ds)) _ _ E (hr.make C us [])
  (I2.env0.make C us []) (hb _ (Value.ref (s.heap.objs.size+1)::us) I2.kIn hl) r2 hq) fun r s' hq'=>?_))
 cases r with
 | error e=>exact hx pins σ _ _ e s' I2 hq'
 | ok fl=>
  cases fl with
  | ret u=>
   obtain ⟨v,H',I3,rv,ev,q3⟩:=I2.after hq'
   subst ev
   exact ⟨rv,⟨V.ref (s.heap.objs.size+1),H',I3,rfl,q3⟩⟩
  | next=>exact False.elim hq'
  | brk=>exact False.elim hq'
  | cont=>exact False.elim hq'
theorem pe_make (M:Mk X.K C f) (F:FnOk X.prog X.w X.K X.mg X.base CX k f fd ps sp) (hr:Room (k+1) X.A) (hg:Gl X x) (hm:X.mg x=some (.ref C)) (hb:a5s X.K fd ps ds) (hd:Vals dvs ds) (hx:a8v CX X E)
  (ha:PA X (e::es) t) (hdb:(x == ("__debug__" : Str))=false:=by decide) (he:starEach (e::es) X.env=(false,eval e X.env)::starEach es X.env:=by rfl) (hpl:(backTo pos (starEach es X.env)).any (·.1)=false:=by rfl):
  PE X (.Call (.Name x p) (e::es) [] pos) (tMake C sp dvs E t):=by
 intro pins s σ H Q I h
 refine wpAny_Call_Name_kw (a80 I hg hm ?_ hdb)
 refine callWith_K (h₀:=X.base) I.ok.mod.kin M.kp (thn (ha pos pins s σ H _ I h) fun us s1 ⟨vs,H1,I1,r,q⟩=>⟨I1.kIn,?_⟩) he hpl
 exact b1R M F hr hb hd hx I1 r q
theorem pe_make0 (M:Mk X.K C f) (F:FnOk X.prog X.w X.K X.mg X.base CX k f fd ps sp) (hr:Room (k+1) X.A) (hg:Gl X x) (hm:X.mg x=some (.ref C)) (hb:a5s X.K fd ps ds) (hd:Vals dvs ds) (hx:a8v CX X E)
  (hdb:(x == ("__debug__" : Str))=false:=by decide):PE X (.Call (.Name x p) [] [] pos) (tMake C sp dvs E tNil):=by
 intro pins s σ H Q I h
 refine wpAny_Call_Name_kw (a80 I hg hm ?_ hdb)
 exact PySem.W.callWith_K0 I.kIn M.kp (b1R (us:=[]) M F hr hb hd hx I .nil h)
end
def PK (X:Cx) (kws:List Keyword) (t:TA):Prop:=
 ∀(pos:Pos) (pins:List (Addr×Obj)) (s:Shared) (σ:St) (H:Hp) (Q:List V->Hp->Prop),Inv X pins σ H s->t σ H Q->wpAny (model X.prog X.w) X.A (evalAll ((backToKw pos (keywordEach kws X.env)).map (·.2))) (AP X pins σ Q) X.xe s
section
variable {X:Cx} {CX:CXT} {k:Nat} {f C:Addr} {fd:FuncData} {ps ks:List Str} {sp:Sp} {E:XK} {x m:Str} {p pos apos kpos:Pos} {e o:Expr} {es:List Expr} {kws:List Keyword} {te ta:TE} {t tk:TA} {nm:Option Str}
structure KBinds (K:Frag) (fd:FuncData) (ps ks:List Str) (g:List Value->List Value->List Value) (gV:List V->List V->List V):Prop where
 to:∀(s:Shared) (us ws:List Value),K.In s.heap->(g us ws).length=ps.length->BindsTo s fd ⟨us,ks.zip ws⟩ (ps.zip (g us ws))
 rel:∀{vs:List V} {us:List Value} {zs:List V} {ws:List Value},Vals vs us->Vals zs ws->Vals (gV vs zs) (g us ws)
def tCallK (sp:Sp) (gV:List V->List V->List V) (E:XK) (t tk:TA):TE:=fun σ H Q=>t σ H fun vs H1=>tk σ H1 fun zs H2=>sp (gV vs zs) H2 Q E
variable {g:List Value->List Value->List Value} {gV:List V->List V->List V}
end
structure a0w (N P:List Str) (sc:Scope):Prop where
 kind:sc.kind=.function
 co:sc.isCoroutine=false
 gen:sc.isGenerator=false
 nd:N.Nodup
 pre:N.take P.length=P
 par:∀x∈P,sc.names.lookup x=some .local\/sc.names.lookup x=some .cell
 nofree:∀y∈sc.names,y.2≠.free
theorem b0C {kindOf:Str->Option NameKind} {x:Str}:∀{binds:List (Str×Value)} {m:Str->Option Value},(∀v,(x,v)∉binds)->bindL kindOf binds m x=m x
 | [],_,_=>rfl
 | (n,v)::r,m,h=>by
  unfold bindL
  rw [b0C fun w hw=>h w (mem_cons_of_mem _ hw)]
  split
  ·have:x≠n:=by rintro rfl;exact h v mem_cons_self
   simp [this]
  ·rfl
theorem b0E {kindOf:Str->Option NameKind} {x:Str}:∀{binds:List (Str×Value)} {m:Str->Option Value},(∀v,(x,v)∉binds)->bindC kindOf binds m x=m x
 | [],_,_=>rfl
 | (n,v)::r,m,h=>by
  unfold bindC
  rw [b0E fun w hw=>h w (mem_cons_of_mem _ hw)]
  split
  ·rfl
  ·have:x≠n:=by rintro rfl;exact h v mem_cons_self
   simp [this]
theorem b0D {kindOf:Str->Option NameKind} {x:Str} {v:Value}:∀{P:List Str} {vs:List Value} {i:Nat} {m:Str->Option Value},P.Nodup->P[i]?=some x->vs[i]?=some v->kindOf x=some .local->
  bindL kindOf (P.zip vs) m x=some v
 | [],_,_,_,_,h,_,_=>by simp at h
 | _::_,[],_,_,_,_,h,_=>by simp at h
 | p::P,w::vs,0,m,nd,h1,h2,hk=>by
  simp at h1 h2;subst h1;subst h2
  show bindL kindOf ((p,w)::P.zip vs) m p=_
  unfold bindL
  rw [b0C fun v hv=>(nodup_cons.mp nd).1 (of_mem_zip hv).1,if_pos hk]
  simp
 | p::P,w::vs,i+1,m,nd,h1,h2,hk=>by
  show bindL kindOf ((p,w)::P.zip vs) m x=_
  unfold bindL
  exact b0D (i:=i) (nodup_cons.mp nd).2 (by simpa using h1) (by simpa using h2) hk
theorem b0F {kindOf:Str->Option NameKind} {x:Str} {v:Value}:∀{P:List Str} {vs:List Value} {i:Nat} {m:Str->Option Value},P.Nodup->P[i]?=some x->vs[i]?=some v->kindOf x≠some .local->
  bindC kindOf (P.zip vs) m x=some v
 | [],_,_,_,_,h,_,_=>by simp at h
 | _::_,[],_,_,_,_,h,_=>by simp at h
 | p::P,w::vs,0,m,nd,h1,h2,hk=>by
  simp at h1 h2;subst h1;subst h2
  show bindC kindOf ((p,w)::P.zip vs) m p=_
  unfold bindC
  rw [b0E fun v hv=>(nodup_cons.mp nd).1 (of_mem_zip hv).1,if_neg hk]
  simp
 | p::P,w::vs,i+1,m,nd,h1,h2,hk=>by
  show bindC kindOf ((p,w)::P.zip vs) m x=_
  unfold bindC
  exact b0F (i:=i) (nodup_cons.mp nd).2 (by simpa using h1) (by simpa using h2) hk
def start (N:List Str) (vs:List V):St:=vs.map some++replicate (N.length - vs.length) none
def cxOf (CX:CXT) (P:Program) (w:World) (K:Frag) (mg:Str->Option Value) (base:Heap) (N:List Str) (qual:Str) (scope:Scope) (f:Addr) (cd:Value) (A:Around) (outer:List Env) (s:Shared) (H:Hp) (E:XK):Cx where
 prog:=P
 w:=w
 K:=K
 mg:=mg
 base:=base
 A:=A.deeper (envOfC qual scope s.heap.objs.size f cd)
 N:=N
 s₀:=s
 H₀:=H
 env:=envOfC qual scope s.heap.objs.size f cd
 outer:=outer
 stack:=envOfC qual scope s.heap.objs.size f cd::outer
 ex:=[]
 calm:=true
 fn:=fun _=>true
 pn:=[]
 xe:=fun e s'=>wpAny (model P w) (A.deeper (envOfC qual scope s.heap.objs.size f cd)) (leaving (envOfC qual scope s.heap.objs.size f cd) e) (fun _ s''=>CX outer H s E e s'') (fun e' s''=>CX outer H s E e' s'') s'
theorem a7b {sc:Scope} {n:Nat} {x:Str} (h:sc.names.lookup x=some .cell):∃c,(cellsFrom n sc.names []).lookup x=some c:=by
 have q:=cellsFrom_some sc.names n [] (.inl h)
 exact Option.isSome_iff_exists.mp q
theorem b0j {CX:CXT} {P:Program} {w:World} {K:Frag} {mg:Str->Option Value} {base:Heap} {N ps:List Str} {qual:Str} {scope:Scope} {f:Addr} {cd:Value} {A:Around} {outer:List Env} {s s1:Shared} {H:Hp} {E:XK} {us:List Value} {vs:List V}
  (S:a0w N ps scope) (hd:A.handled=none) (e0:Env0 P w K mg base A outer s H) (hl:vs.length=ps.length) (r:Vals vs us)
  (x:InCallC s s.heap.objs.size (bindL (envOfC qual scope s.heap.objs.size f cd).kindOf (ps.zip us) fun _=>none) (cellsFrom (s.heap.objs.size+1) scope.names []) (bindC (envOfC qual scope s.heap.objs.size f cd).kindOf (ps.zip us) fun _=>none) s1):
  Inv (cxOf CX P w K mg base N qual scope f cd A outer s H E) [] (start N vs) H s1:=by
 have hpl:ps.length<=N.length:=by have:=congrArg List.length S.pre;rw [length_take] at this;omega
 obtain ⟨h1,tk,rfl,hk⟩:=x.done
 have noA:∀b:Addr,b∉(cxOf CX P w K mg base N qual scope f cd A outer s H E).ex:=fun b z=>absurd (show b∈([]:List Addr) from z) (by simp)
 refine ⟨⟨e0.mod,S.kind,rfl,rfl,le_refl _,fun y z c h1 h2=>?_,fun y hy=>?_,fun y c _ h=>?_,fun _=>hd,Around.frames_deeper e0.frames,.inr ⟨rfl,rfl⟩,fun b z=>absurd z (noA b),e0.bs,e0.bsz,fun b _ _=>noA b,fun b z=>absurd z (noA b),e0.funs,e0.frf⟩,
  rfl,e0.bare,Un.kept hk,⟨_,x.toInCall.ns,fun i y v h1 h2 h3=>?_⟩,fun y c h=>⟨_,x.cell y c h⟩,e0.hok.fresh (le_refl _),fun y c h=>?_,fun p hp=>absurd (show p∈([]:List (Addr×Obj)) from hp) (by simp),e0.hok.kept hk,?_⟩
 ·exact name_of_addr x.apart (PySem.mem_of_lookup h1) (PySem.mem_of_lookup h2)
 ·have hy:scope.names.lookup y=some .cell\/scope.names.lookup y=some .free:=hy
  rcases hy with hy|hy
  ·exact a7b hy
  ·exact absurd rfl (S.nofree _ (PySem.mem_of_lookup hy))
 ·exact le_of_lt (x.above y c (PySem.mem_of_lookup h))
 ·have hi:i<vs.length:=by
   unfold start at h2
   by_cases hi:i<vs.length
   ·exact hi
   ·rw [getElem?_append_right (by simpa using hi)] at h2
    rw [getElem?_replicate] at h2
    split at h2 <;> cases h2
  have ha:vs[i]?=some v:=by
   unfold start at h2
   rw [getElem?_append_left (by simpa using hi),getElem?_map] at h2
   cases e:vs[i]? with
   | none=>rw [e] at h2;cases h2
   | some a=>rw [e] at h2;cases h2;rfl
  obtain ⟨u,hu,rv⟩:=r.get ha
  have hp:ps[i]?=some y:=by
   rw [←S.pre,List.getElem?_take_of_lt (by omega)];exact h1
  have ndP:ps.Nodup:=by rw [←S.pre];exact S.nd.sublist (List.take_sublist _ _)
  refine ⟨u,rv,?_⟩
  rcases S.par y (mem_of_getElem? hp) with k|k
  ·exact .inl ⟨k,b0D ndP hp hu k⟩
  ·obtain ⟨c,e⟩:=a7b (n:=s.heap.objs.size+1) k
   refine .inr ⟨.inl k,c,e,?_⟩
   have q:=x.cell y c e
   rw [b0F ndP hp hu (by show scope.names.lookup y≠_;rw [k];decide)] at q
   exact q
 ·exact e0.hok.fresh (le_of_lt (x.above y c (PySem.mem_of_lookup h)))
 ·unfold start
  show _=N.length
  rw [length_append,length_map,length_replicate]
  omega
theorem fn_of {CX:CXT} {P:Program} {w:World} {K:Frag} {mg:Str->Option Value} {base:Heap} {k:Nat} {f:Addr} {name qual:Str} {params:Arguments} {body:List Stmt} {scope:Scope} {dV kV doc pm cdv ct oc:Value} {an od:Option Addr}
  {osl:Array (Option Value)} {N ps:List Str} {sp:Sp} (lk:K.lookup f=some ⟨oc,od,.func (fnOf name qual params body scope dV kV doc pm an cdv ct),osl⟩) (hcd:codeIn K cdv qual=true) (S:a0w N ps scope)
  (len:∀vs H Q E,sp vs H Q E->vs.length=ps.length)
  (hbody:∀(A:Around) (outer:List Env) (s:Shared) (H:Hp) (vs:List V) (Q:VK) (E:XK),Room k (A.deeper (envOfC qual scope s.heap.objs.size f cdv))->sp vs H Q E->
   ∃t,PSs (cxOf CX P w K mg base N qual scope f cdv A outer s H E) body t/\t { nx:=fun _ H'=>Q .non H',rt:=Q } (start N vs) H):
  FnOk P w K mg base CX (k+1) f (fnOf name qual params body scope dV kV doc pm an cdv ct) ps sp:=by
 refine ⟨len,fun A outer s H args us vs Q E hr e0 hb r hsp=>?_⟩
 have hl:=len _ _ _ _ hsp
 have KX:K.In s.heap:=e0.mod.kin.keeps fun b o e=>(e0.bs b o e).1
 have lim:s.heap.NoLimit:=e0.mod.nolimit.keeps fun b o e=>(e0.bs b o e).1
 have hkind:∀y∈ps.zip us,scope.names.lookup y.1=some .local\/(scope.names.lookup y.1=some .cell/\((cellsFrom (s.heap.objs.size+1) scope.names []).lookup y.1).isSome=true):=fun ⟨n,v⟩ hy=>by
  rcases S.par n (of_mem_zip hy).1 with q|q
  ·exact .inl q
  ·exact .inr ⟨q,cellsFrom_some _ _ _ (.inl q)⟩
 refine codeAny_call_function hr.depth (KX _ _ lk) rfl S.co S.gen rfl (PySem.W.codeRec_of KX hcd) (hb _ _ _ _ ?_)
 refine wpAny_newFunctionEnv_cells S.kind hkind fun env he s1 x=>?_
 subst he
 refine ⟨lim.keeps x.toInCall.keep,codeAny_func ?_⟩
 obtain ⟨t,ht,hq⟩:=hbody A outer s H vs Q E (hr.deeper _) hsp
 have I:Inv (cxOf CX P w K mg base N qual scope f cdv A outer s H E) [] (start N vs) H s1:=b0j S hr.hd e0 hl r x
 refine wpAny_mono (ht [] s1 (start N vs) H _ I hq) (fun fl s' hs=>?_) fun e s' hs=>hs
 have fin:∀{σ':St} {H':Hp} {v:V} {u:Value},Inv (cxOf CX P w K mg base N qual scope f cdv A outer s H E) [] σ' H' s'->RelV v u->Q v H'->CE outer P w H s Q u s':=
  fun {σ' H' v u} J rv q=>⟨v,H',J.os,J.bare,J.base,J.hok,rv,q⟩
 cases fl with
 | ret u=>
  obtain ⟨v,σ',H',J,rv,q⟩:=hs
  exact fin J rv q
 | next=>
  obtain ⟨σ',H',J,q⟩:=hs
  exact fin (v:=V.non) (u:=Value.none) J rfl q
 | brk=>
  obtain ⟨_,_,_,q⟩:=hs
  exact False.elim q
 | cont=>
  obtain ⟨_,_,_,q⟩:=hs
  exact False.elim q
section
variable {X:Cx} {x:Str} {p pos:Pos} {e:Expr} {es:List Expr} {t:TA} {id T:String} {r:List V->Hp->VK->Prop}
def tCB (r:List V->Hp->VK->Prop) (t:TA):TE:=fun σ H Q=>t σ H fun vs H1=>r vs H1 Q
theorem a66 (hc:a2X X (.builtin id) r) (hg:Gl X x) (hm:X.mg x=none) (hv:bootBuiltins x=some (.builtin id)) (ha:PA X (e::es) t) (hn:x ≠ "__name__" := by decide) (hdb:(x == ("__debug__" : Str))=false:=by decide)
  (he:starEach (e::es) X.env=(false,eval e X.env)::starEach es X.env:=by rfl) (hpl:(backTo pos (starEach es X.env)).any (·.1)=false:=by rfl):PE X (.Call (.Name x p) (e::es) [] pos) (tCB r t):=by
 intro pins s σ H Q I h
 refine wpAny_Call_Name_kw (a7t I hg hm hv ?_ hn hdb)
 exact PyProof.Rows.callWith_builtin1 (thn (ha pos pins s σ H _ I h) fun us s1 ⟨vs,H1,I1,r1,q1⟩=>hc pins s1 σ H1 vs us Q I1 r1 q1) he hpl
theorem a6g (hc:a2X X (.type T) r) (hg:Gl X x) (hm:X.mg x=none) (hv:bootBuiltins x=some (.type T)) (ha:PA X (e::es) t) (hn:x ≠ "__name__" := by decide) (hdb:(x == ("__debug__" : Str))=false:=by decide)
  (he:starEach (e::es) X.env=(false,eval e X.env)::starEach es X.env:=by rfl) (hpl:(backTo pos (starEach es X.env)).any (·.1)=false:=by rfl):PE X (.Call (.Name x p) (e::es) [] pos) (tCB r t):=by
 intro pins s σ H Q I h
 refine wpAny_Call_Name_kw (a7t I hg hm hv ?_ hn hdb)
 exact PyProof.Rows.callWith_type1 (thn (ha pos pins s σ H _ I h) fun us s1 ⟨vs,H1,I1,r1,q1⟩=>hc pins s1 σ H1 vs us Q I1 r1 q1) he hpl
end
end L2
namespace HT
open PySem PyProof.Rows
def lexLt:List Int->List Int->Bool
 | [],[]=>false
 | [],_::_=>true
 | _::_,[]=>false
 | x::xs,y::ys=>if x=y then lexLt xs ys else decide (x<y)
section
open PySem.SeqAt
open PySem.AutoSeq1 (wpAny_loadPart')
open PySem.MeetsSeq PySem.MeetsSeq2 PySem.MeetsSeq3
end
section
variable {prog:Program} {w:World} {A:Around} {E:Value->Shared->Prop} {s:Shared}
theorem cat_tup {t b:Addr} {vs ws:List Value} {Q:Value->Shared->Prop} (ht:IsTup s.heap t vs.toArray) (hb:IsTup s.heap b ws.toArray) (hv:vs≠[])
  (h1:ws=[]->Q (.ref t) s) (h2:ws≠[]->Q (.ref s.heap.objs.size) { s with heap:=s.heap.push { cls:=.type "tuple",data:=.seq (vs++ws).toArray } })
  (hsz:vs.length+ws.length<=sizeLine):wpAny (model prog w) A (binaryOp .Add (.ref t) (.ref b)) Q E s:=by
 obtain ⟨⟨cls,dd,data,sl⟩,ho,hc,n,hd⟩:=id ht
 obtain ⟨⟨cls2,dd2,data2,sl2⟩,ho2,hc2,n2,hd2⟩:=id hb
 simp only at hc hd hc2 hd2
 subst hc hd hc2 hd2
 have e:vs.toArray++ws.toArray=(vs++ws).toArray:=by simp
 by_cases hw:ws=[]
 ·exact concat_meets ⟨_,ho,rfl⟩ ⟨_,ho2,rfl⟩ noFill_tuple_add seq_tuple_add PySem.F.slot_tuple_add PySem.F.entry_tuple_add (PySem.F.args_tuple_add_2 _ _)
   (tuple_addW1 t b vs.toArray ws.toArray n n2 dd dd2 sl sl2 (by simpa using hv) (by simp [hw])) ⟨ho,ho2,h1 hw⟩
 ·refine concat_meets ⟨_,ho,rfl⟩ ⟨_,ho2,rfl⟩ noFill_tuple_add seq_tuple_add PySem.F.slot_tuple_add PySem.F.entry_tuple_add (PySem.F.args_tuple_add_2 _ _)
   (tuple_addW2 t b vs.toArray ws.toArray n n2 dd dd2 sl sl2 (by simpa using hv) (by simpa using hw) (by rw [size_toArray,size_toArray];exact hsz)) ⟨ho,ho2,?_⟩
  rw [e]
  exact h2 hw
def sIx (n d:Nat):Option Int->Nat
 | none=>d
 | some v=>if v<0 then (v+(n:Int)).toNat else min v.toNat n
theorem sIx_le (n d:Nat) (hd:d<=n) (o:Option Int):sIx n d o<=n:=by
 cases o with
 | none=>exact hd
 | some v=>
  show (if v<0 then (v+(n:Int)).toNat else min v.toNat n)<=n
  by_cases hv:v<0
  ·rw [if_pos hv];omega
  ·rw [if_neg hv];exact Nat.min_le_right _ _
theorem b5H (v:Int) (n d:Nat):(if v<0 then max (v+(n:Int)) 0 else min v (n:Int))=((sIx n d (some v):Nat):Int):=by
 show (if v<0 then max (v+(n:Int)) 0 else min v (n:Int))=(((if v<0 then (v+(n:Int)).toNat else min v.toNat n):Nat):Int)
 by_cases hv:v<0
 ·simp only [if_pos hv];omega
 ·simp only [if_neg hv];omega
theorem b3J (lo hi:Option Int) (n:Nat):Builtin.Slice.sliceAdjust lo hi 1 (n:Int)=(((sIx n 0 lo:Nat):Int),((sIx n n hi:Nat):Int)):=by
 have h1:¬((1:Int)<0):=by omega
 unfold Builtin.Slice.sliceAdjust
 simp only [h1,if_false]
 refine Prod.ext ?_ ?_
 ·cases lo with
  | none=>rfl
  | some v=>exact b5H v n 0
 ·cases hi with
  | none=>rfl
  | some v=>exact b5H v n n
theorem b2O (i j:Nat):Builtin.Slice.slicePlaces (i:Int) (j:Int) 1=j - i:=by
 unfold Builtin.Slice.slicePlaces
 have h1:(1:Int) > 0:=by omega
 simp only [h1,if_true,Int.ediv_one]
 split <;> omega
theorem a8c {v:Value} {o:Option Int} {Q:Option Int->Shared->Prop} (p:IsPart v o) (h:Q o s):wpAny (model prog w) A (Builtin.Slice.slicePartIndex v) Q E s:=by
 cases p with
 | none=>exact slicePart_none h
 | int i t=>exact slicePart_int h
theorem a6U {sl:Addr} {vl vu:Value} {lo hi:Option Int} {n:Nat} {Q:Int×Int×Nat->Shared->Prop} (hs:s.heap.IsSliceOf sl vl vu .none) (pl:IsPart vl lo) (pu:IsPart vu hi)
  (h:Q (((sIx n 0 lo:Nat):Int),1,sIx n n hi - sIx n 0 lo) s):wpAny (model prog w) A (Builtin.Slice.sliceApplied (.ref sl) (pure (n:Int))) Q E s:=by
 obtain ⟨os,hos,hcs,hds⟩:=id hs
 unfold Builtin.Slice.sliceApplied Builtin.Slice.sliceFields
 refine wpAny_bind (wpAny_bind (wpAny_field hos hds (x:=vl) rfl (wpAny_bind (wpAny_field hos hds (x:=vu) rfl (wpAny_bind (wpAny_field hos hds (x:=.none) rfl (wpAny_pure ?_)))))))
 refine wpAny_bind (slicePart_none ?_)
 show wpAny _ _ (if ((1:Int) == 0)=true then _ else _) _ _ s
 rw [if_neg (by decide)]
 refine wpAny_bind (a8c pl (wpAny_bind (a8c pu (wpAny_bind (wpAny_pure ?_)))))
 show wpAny _ _ (match Builtin.Slice.sliceAdjust lo hi 1 (n:Int) with|(lo,hi)=>pure (lo,(1:Int),Builtin.Slice.slicePlaces lo hi 1)) _ _ s
 rw [b3J lo hi n]
 show wpAny _ _ (pure (((sIx n 0 lo:Nat):Int),(1:Int),Builtin.Slice.slicePlaces ((sIx n 0 lo:Nat):Int) ((sIx n n hi:Nat):Int) 1)) _ _ s
 rw [b2O]
 exact wpAny_pure h
theorem pick_gen (xs:Array Value) (i k:Nat):((List.range k).filterMap fun (m:Nat)=>xs[((i:Int)+(m:Int) * 1).toNat]?).toArray=((xs.toList.drop i).take k).toArray:=by
 have e:(fun (m:Nat)=>xs[((i:Int)+(m:Int) * 1).toNat]?)=fun m=>xs[i+m]?:=by
  funext m
  have:((i:Int)+(m:Int) * 1).toNat=i+m:=by omega
  rw [this]
 rw [e]
 have:=pick_run xs i k
 rw [List.filterMap_map] at this
 have e2:((fun x=>xs[x]?) ∘ fun x=>i+x)=fun m=>xs[i+m]?:=rfl
 rw [e2] at this
 rw [this]
theorem getItem_tuple_cut {t sl:Addr} {items:Array Value} {vl vu:Value} {lo hi:Option Int} {Q:Value->Shared->Prop} (ht:IsTup s.heap t items) (hs:s.heap.IsSliceOf sl vl vu .none) (pl:IsPart vl lo) (pu:IsPart vu hi)
  (hw:¬(sIx items.size 0 lo=0/\sIx items.size items.size hi=items.size))
  (h:Q (.ref s.heap.objs.size) { s with heap:=s.heap.push { cls:=.type "tuple",data:=.seq ((items.toList.drop (sIx items.size 0 lo)).take (sIx items.size items.size hi - sIx items.size 0 lo)).toArray } })
  (hsz:items.size<=sizeLine):wpAny (model prog w) A (getItem (.ref t) (.ref sl)) Q E s:=by
 have htake:sizeOk (.seq ((items.toList.drop (sIx items.size 0 lo)).take (sIx items.size items.size hi - sIx items.size 0 lo)).toArray):=by
  show ((items.toList.drop (sIx items.size 0 lo)).take (sIx items.size items.size hi - sIx items.size 0 lo)).toArray.size<=sizeLine
  rw [size_toArray,length_take,length_drop,length_toList]
  omega
 have hj:sIx items.size items.size hi<=items.size:=sIx_le _ _ (le_refl _) hi
 obtain ⟨os,hos,hcs,hds⟩:=id hs
 have hTs:s.TypeIs (.ref sl) "slice" := ⟨os,hos,hcs⟩
 unfold getItem
 try with_reducible refine wpAny_holding ?_
 first|refine wpAny_bind (wpAny_pure ?_)|skip
 refine wpAny_bind (wpAny_sequenceKey ht.typeIs (by decide) ?_)
 refine wpAny_bind (wpAny_callSpecial?_slot (name:=Str.ofString "__getitem__") ht.typeIs PyProof.Rows.slot_tuple_getitem
  (wpAny_call_entry PyProof.Rows.slot_tuple_getitem ht.typeIs entry_tuple_getitem ?_ (args_tuple_getitem _ _)))
 show wpAny _ _ (Builtin.Tuple.tupleItemsOf (.ref t) >>= _) _ _ s
 refine wpAny_bind (tupleItemsOf_ ht ?_)
 refine wpAny_bind (wpAny_typeOf hTs ?_)
 rw [if_pos (by decide)]
 refine wpAny_bind (a6U hs pl pu ?_)
 have hno:¬((((sIx items.size 0 lo:Nat):Int) == 0 && (1:Int) == 1 && (sIx items.size items.size hi - sIx items.size 0 lo) == items.size)=true):=by
  intro q
  rw [and_eq_true,and_eq_true] at q
  have q1:((sIx items.size 0 lo:Nat):Int)=0:=eq_of_beq q.1.1
  have q2:sIx items.size items.size hi - sIx items.size 0 lo=items.size:=eq_of_beq q.2
  exact hw ⟨by omega,by omega⟩
 show wpAny _ _ (if (((sIx items.size 0 lo:Nat):Int) == 0 && (1:Int) == 1 && (sIx items.size items.size hi - sIx items.size 0 lo) == items.size)=true then _ else _) _ _ s
 rw [if_neg hno,pick_gen]
 first
  | exact wpAny_bind (m:=Builtin.Tuple.tupleExact _) (wpAny_newObj_type (wpAny_pure ⟨_,rfl,wpAny_pure h⟩) htake)
  | exact wpAny_bind (m:=Builtin.Tuple.tupleExact _) (wpAny_newObj_type (wpAny_bind (wpAny_pure (wpAny_pure ⟨_,rfl,wpAny_pure h⟩))) htake)
  | exact wpAny_bind (wpAny_bind (m:=Builtin.Tuple.tupleExact _) (wpAny_newObj_type (wpAny_pure (wpAny_pure ⟨_,rfl,wpAny_pure h⟩)) htake))
  | exact wpAny_bind (wpAny_bind (m:=Builtin.Tuple.tupleExact _) (wpAny_newObj_type (wpAny_pure ⟨_,rfl,wpAny_pure h⟩) htake))
end
end HT
namespace L2
open PySem PySem.Spec PyProof.Rows
abbrev TO:=St->Hp->(Option Int->Hp->Prop)->Prop
def PO (X:Cx) (e:Option Expr) (t:TO):Prop:=
 ∀(pins:List (Addr×Obj)) (s:Shared) (σ:St) (H:Hp) (Q:Option Int->Hp->Prop),Inv X pins σ H s->t σ H Q->
  wpAny (model X.prog X.w) X.A (evalPart e X.env) (fun u s'=>∃o H',Inv X pins σ H' s'/\IsPart u o/\Q o H') X.xe s
def b3W:TO:=fun _ H Q=>Q none H
def tPart (t:TE):TO:=fun σ H Q=>t σ H fun x H1=>∃i,x=.int i/\Q (some i) H1
theorem b3m {ns:List Int}:∀{us:List Value},Vals (ns.map V.int) us->IntsAre us ns:=by
 induction ns with
 | nil=>intro us r;rw [map_nil] at r;cases r;exact .nil
 | cons n ns ih=>
  intro us r
  rw [map_cons] at r
  cases r with
  | cons r1 r2=>
   obtain ⟨t,e⟩:=r1
   subst e
   exact .cons n t (ih r2)
section
variable {X:Cx} {e:Expr} {te:TE} {lo hi:Option Expr} {tl th:TO} {pos p2:Pos}
theorem po_none:PO X none b3W:=by
 intro pins s σ H Q I h
 rw [evalPart_none]
 exact wpAny_pure ⟨none,H,I,.none,h⟩
theorem po_some (h:PE X e te):PO X (some e) (tPart te):=by
 intro pins s σ H Q I hw
 rw [evalPart_some]
 refine thn (h pins s σ H _ I hw) fun u s1 ⟨x,H1,I1,r1,q1⟩=>?_
 obtain ⟨i,rfl,q⟩:=q1
 obtain ⟨t,rfl⟩:=r1
 exact ⟨some i,H1,I1,.int i t,q⟩
def SlR (X:Cx) (r:V->Option Int->Option Int->Hp->VK->Prop):Prop:=
 ∀(pins:List (Addr×Obj)) (s:Shared) (σ:St) (H:Hp) (x:V) (v vl vu:Value) (lo hi:Option Int) (sl:Addr) (Q:VK),Inv X pins σ H s->RelV x v->s.heap.IsSliceOf sl vl vu .none->IsPart vl lo->IsPart vu hi->r x lo hi H Q->
  ∃T id,typeLookup (.type T) "__getitem__" = pure (some (.builtin id))/\s.TypeIs v T/\wpAny (model X.prog X.w) X.A (getItem v (.ref sl)) (EP X pins σ Q) X.xe s
def tSl (r:V->Option Int->Option Int->Hp->VK->Prop) (te:TE) (tl th:TO):TE:=fun σ H Q=>te σ H fun x H1=>tl σ H1 fun l H2=>th σ H2 fun u H3=>r x l u H3 Q
theorem pe_slice {r:V->Option Int->Option Int->Hp->VK->Prop} (hr:SlR X r) (he:PE X e te) (hl:PO X lo tl) (hu:PO X hi th):PE X (.Subscript e (.Slice lo hi none p2) pos) (tSl r te tl th):=by
 intro pins s σ H Q I h
 refine Subscript_ (thn (he pins s σ H _ I h) fun v s1 ⟨x,H1,I1,r1,q1⟩=>?_)
 refine wpAny_Slice (thn (hl pins s1 σ H1 _ I1 q1) fun vl s2 ⟨l,H2,I2,pl,q2⟩=>thn (hu pins s2 σ H2 _ I2 q2) fun vu s3 ⟨u,H3,I3,pu,q3⟩=>?_)
 rw [evalPart_none]
 refine wpAny_pure ?_
 have I4:Inv X pins σ H3 { s3 with heap:=s3.heap.push { cls:=.type "slice",data:=.fields #[vl,vu,.none] } }:=I3.kept (t':=s3.toks) fun b ob q=>get?_push_of_some _ q
 obtain ⟨T,id,hT,ht,hg⟩:=hr pins { s3 with heap:=s3.heap.push { cls:=.type "slice",data:=.fields #[vl,vu,.none] } } σ H3 x v vl vu l u s3.heap.objs.size Q I4 r1 (Heap.IsSliceOf.new ..) pl pu q3
 show wpAny (model X.prog X.w) X.A (subscriptTail e (.Slice lo hi none p2) v (.ref s3.heap.objs.size)) (EP X pins σ Q) X.xe { s3 with heap:=s3.heap.push { cls:=.type "slice",data:=.fields #[vl,vu,.none] } }
 exact tail_any (ops:=[.ref s3.heap.objs.size,v]) ht hT hg (by with_unfolding_all rfl)
def cutV (xs:List V) (lo hi:Option Int):List V:=(xs.drop (HT.sIx xs.length 0 lo)).take (HT.sIx xs.length xs.length hi - HT.sIx xs.length 0 lo)
theorem a7D (xs:List V) (lo hi:Option Int):(cutV xs lo hi).length<=xs.length:=by
 unfold cutV
 rw [length_take,length_drop]
 omega
def rSlT (K:Frag):V->Option Int->Option Int->Hp->VK->Prop:=fun x lo hi H Q=>∃a xs,x=.ref a/\SqT K H a xs/\
 ¬(HT.sIx xs.length 0 lo=0/\HT.sIx xs.length xs.length hi=xs.length)/\∀p,H p=none->Q (.ref p) (upd H p (.tup (cutV xs lo hi)))
theorem sl_tup:SlR X (rSlT X.K):=by
 intro pins s σ H x v vl vu lo hi sl Q I rx hs pl pu h
 obtain ⟨a,xs,rfl,hx,hw,q⟩:=h
 cases rx
 obtain ⟨its,r,ht,hz⟩:=I.tuple hx
 have hlen:its.toArray.size=xs.length:=by rw [size_toArray];exact r.length.symm
 refine ⟨"tuple",_,PyProof.Rows.slot_tuple_getitem.lookup,ht.typeIs,?_⟩
 refine HT.getItem_tuple_cut ht hs pl pu (by rw [hlen];exact hw) ?_ (by rw [hlen];exact hz)
 rw [hlen]
 refine ⟨.ref s.heap.objs.size,_,I.laid (t':=s.toks) (o:=.tup (cutV xs lo hi)) (fun b ob q=>get?_push_of_some _ q) (le_refl _) ?_,rfl,q _ (I.hok.fresh (le_refl _))⟩
 exact ⟨le_trans (a7D xs lo hi) hz,_,(r.drop (HT.sIx xs.length 0 lo)).take (HT.sIx xs.length xs.length hi - HT.sIx xs.length 0 lo),IsTup.new _ _⟩
def rLtT (K:Frag):R2:=fun x y H Q=>∃a b ns ms,x=.ref a/\y=.ref b/\SqT K H a (ns.map V.int)/\SqT K H b (ms.map V.int)/\Q (.bl (HT.lexLt ns ms)) H
def rCatT (K:Frag):R2:=fun x y H Q=>∃a b xs ys,x=.ref a/\y=.ref b/\SqT K H a xs/\SqT K H b ys/\xs≠[]/\xs.length+ys.length<=sizeLine/\
 (ys=[]->Q (.ref a) H)/\(ys≠[]->∀p,H p=none->Q (.ref p) (upd H p (.tup (xs++ys))))
theorem Vals.nil_iff {xs:List V} {us:List Value} (r:Vals xs us):us=[]↔xs=[]:=by
 cases r with
 | nil=>simp
 | cons _ _=>simp
theorem op_catT:OpR X (binaryOp .Add) (rCatT X.K):=by
 intro pins s σ H x y v u Q I rx ry h
 obtain ⟨a,b,xs,ys,rfl,rfl,ha,hb,hx,hz,q1,q2⟩:=h
 cases rx
 cases ry
 obtain ⟨its,r1,p1,_⟩:=I.tuple ha
 obtain ⟨its2,r2,p2,_⟩:=I.tuple hb
 refine HT.cat_tup p1 p2 (fun z=>hx (r1.nil_iff.mp z)) (fun z=>⟨.ref a,H,I,rfl,q1 (r2.nil_iff.mp z)⟩) (fun z=>?_) (by rw [←r1.length,←r2.length];exact hz)
 refine ⟨.ref s.heap.objs.size,_,I.laid (t':=s.toks) (o:=.tup (xs++ys)) (fun b ob q=>get?_push_of_some _ q) (le_refl _) ?_,rfl,q2 (fun w=>z (r2.nil_iff.mpr w)) _ (I.hok.fresh (le_refl _))⟩
 exact ⟨by rw [length_append];exact hz,_,r1.append r2,IsTup.new _ _⟩
end
def ixN (n:Nat) (i:Int):Option Nat:=if 0<=i then (if i<n then some i.toNat else none) else if -(n:Int)<=i then some (i+n).toNat else none
def atI {α:Type} (xs:List α) (i:Int):Option α:=(ixN xs.length i).bind fun j=>xs[j]?
theorem b5c {n:Nat} {i:Int} {j:Nat} (h:ixN n i=some j):seqIndex? i n=some j/\j<n/\-(n:Int)<=i/\i<n:=by
 unfold ixN at h
 by_cases h0:0<=i
 ·rw [if_pos h0] at h
  by_cases h1:i<n
  ·rw [if_pos h1] at h
   have e:i.toNat=j:=Option.some.inj h
   exact ⟨by rw [seqIndex_of h0 h1,e],by omega,by omega,h1⟩
  ·rw [if_neg h1] at h;cases h
 ·rw [if_neg h0] at h
  by_cases h1:-(n:Int)<=i
  ·rw [if_pos h1] at h
   have e:(i+n).toNat=j:=Option.some.inj h
   exact ⟨by rw [seqIndex_neg (by omega) h1,e],by omega,h1,by omega⟩
  ·rw [if_neg h1] at h;cases h
theorem b1C {α:Type} {xs:List α} {i:Int} {v:α} (h:atI xs i=some v):∃j,seqIndex? i xs.length=some j/\xs[j]?=some v/\j<xs.length/\-(xs.length:Int)<=i/\i<xs.length:=by
 unfold atI at h
 cases e:ixN xs.length i with
 | none=>rw [e] at h;cases h
 | some j=>
  rw [e] at h
  obtain ⟨h1,h2,h3,h4⟩:=b5c e
  exact ⟨j,h1,h,h2,h3,h4⟩
def b1E (b:Expr):Prop:=∀o i,subscripted b false o i=operate [o,i] (getItem o i)
def IxR (X:Cx) (r:R2):Prop:=
 ∀(value slice:Expr) (pins:List (Addr×Obj)) (s:Shared) (σ:St) (H:Hp) (x y:V) (v u:Value) (Q:VK),Inv X pins σ H s->RelV x v->RelV y u->r x y H Q->
  subscripted slice false v u=operate [v,u] (getItem v u)->wpAny (model X.prog X.w) X.A (subscriptTail value slice v u) (EP X pins σ Q) X.xe s
def MtR (X:Cx) (id:String) (r:V->List V->Hp->VK->Prop):Prop:=
 ∀(pins:List (Addr×Obj)) (s:Shared) (σ:St) (H:Hp) (x:V) (xs:List V) (v:Value) (us:List Value) (Q:VK),Inv X pins σ H s->RelV x v->Vals xs us->r x xs H Q->
  wpAny (model X.prog X.w) X.A (call (.builtin id) (v::us)) (EP X pins σ Q) X.xe s
section
variable {X:Cx} {a b:Expr} {ta tb:TE} {pos:Pos}
theorem pe_ix {r:R2} (hr:IxR X r) (ha:PE X a ta) (hb:PE X b tb) (hs:b1E b):PE X (.Subscript a b pos) (tOp r ta tb):=by
 intro pins s σ H Q I h
 exact Subscript_ (binT ha hb I h fun v u s2 x y H2 I2 rx ry q=>hr a b pins s2 σ H2 x y v u Q I2 rx ry q (hs _ _))
def rIxL (K:Frag):R2:=fun x y H Q=>∃p xs i v,x=.ref p/\y=.int i/\SqL K H p xs/\atI xs i=some v/\Q v H
def rIxT (K:Frag):R2:=fun x y H Q=>∃p xs i v,x=.ref p/\y=.int i/\SqT K H p xs/\atI xs i=some v/\Q v H
def rIxS:R2:=fun x y H Q=>∃z i c,x=.str z/\y=.int i/\z.length<=sizeLine/\atI z.cps.toList i=some c/\Q (.str ⟨#[c]⟩) H
theorem ix_list:IxR X (rIxL X.K):=by
 intro value slice pins s σ H x y v u Q I rx ry h hs
 obtain ⟨p,xs,i,z,rfl,rfl,hq,he,q⟩:=h
 cases rx
 obtain ⟨t,rfl⟩:=ry
 obtain ⟨its,r,pl,hz⟩:=I.list hq
 obtain ⟨j,h1,h2,h3,h4,h5⟩:=b1C he
 obtain ⟨w,ew,rw'⟩:=r.get h2
 have hl:=r.length
 have hn:=a8l
 have fin:EP X pins σ Q w s:=⟨z,H,I,rw',q⟩
 by_cases h0:0<=i
 ·have hj:i.toNat=j:=by
   rw [seqIndex_of h0 h5] at h1
   exact Option.some.inj h1
  exact item_listR pl.isList h0 (by omega) (by rw [hj];simpa using ew) fin hs
 ·have hj:(i+(its.toArray.size:Int)).toNat=j:=by
   rw [seqIndex_neg (by omega) h4] at h1
   rw [size_toArray,←hl]
   exact Option.some.inj h1
  exact subscriptTail_builtinR (x:=w) pl.isList.typeIs slot_list_getitem.lookup
   (wpAny_getItem_list_neg (Q:=fun r s'=>r=w/\EP X pins σ Q r s') pl.isList (by omega) (by rw [size_toArray] <;> omega) (by omega) (by rw [hj];simpa using ew) ⟨rfl,fin⟩) hs
theorem ix_tup:IxR X (rIxT X.K):=by
 intro value slice pins s σ H x y v u Q I rx ry h hs
 obtain ⟨p,xs,i,z,rfl,rfl,hq,he,q⟩:=h
 cases rx
 obtain ⟨t,rfl⟩:=ry
 obtain ⟨its,r,pl,hz⟩:=I.tuple hq
 obtain ⟨j,h1,h2,h3,h4,h5⟩:=b1C he
 obtain ⟨w,ew,rw'⟩:=r.get h2
 have hl:=r.length
 have hn:=a8l
 have fin:EP X pins σ Q w s:=⟨z,H,I,rw',q⟩
 exact subscriptTail_builtinR (x:=w) pl.typeIs slot_tuple_getitem.lookup
  (getItem_tuple (j:=j) (Q:=fun r s'=>r=w/\EP X pins σ Q r s') pl (by omega) (by omega) (by rw [size_toArray,←hl];exact h1) (by simpa using ew) ⟨rfl,fin⟩) hs
theorem ix_str:IxR X rIxS:=by
 intro value slice pins s σ H x y v u Q I rx ry h hs
 obtain ⟨z,i,c,rfl,rfl,hz,he,q⟩:=h
 obtain ⟨t,rfl⟩:=rx
 obtain ⟨t',rfl⟩:=ry
 obtain ⟨j,h1,h2,h3,h4,h5⟩:=b1C he
 have hl:z.cps.toList.length=z.length:=by simp [Str.length]
 rw [hl] at h1 h4 h5
 have hn:=a8l
 exact tail_any (typeIs_str s z t) slot_str_getitem.lookup (getItem_str (c:=c) (by
  have e1:decide (i < -(2 ^ 63:Int))=false:=decide_eq_false (by omega)
  have e2:decide (i ≥ 2 ^ 63)=false:=decide_eq_false (by omega)
  rw [e1,e2,Bool.or_false]) (by rw [h1];simpa using h2) ⟨.str ⟨#[c]⟩,H,I.tok _,⟨_,rfl⟩,q⟩) hs
def rIx (K:Frag):R2:=fun x y H Q=>rIxL K x y H Q\/rIxT K x y H Q\/rIxS x y H Q
theorem b29 (its:List Value) (n j:Nat) (u:Value):Obj.mapSeq (·.setIfInBounds j u) { cls:=.type "list",data:=.seq its.toArray n }={ cls:=.type "list",data:=.seq (its.set j u).toArray n }:=by
 simp [Obj.mapSeq]
theorem Inv.lst {pins:List (Addr×Obj)} {σ:St} {H:Hp} {s:Shared} {p:Addr} {xs:List V} (I:Inv X pins σ H s) (h:H p=some (.lst xs)):
  ∃(its:List Value) (n:Nat),Vals xs its/\s.heap.get? p=some { cls:=.type "list",data:=.seq its.toArray n }/\xs.length<=sizeLine:=by
 obtain ⟨z,its,n,r,e⟩:=I.hok p _ h
 exact ⟨its,n,r,e,z⟩
theorem Inv.lstUpd {pins:List (Addr×Obj)} {σ:St} {H:Hp} {s:Shared} {p:Addr} {xs ys:List V} {its its':List Value} {n n':Nat} {f:Obj->Obj} (I:Inv X pins σ H s) (h:H p=some (.lst xs))
  (ho:s.heap.get? p=some { cls:=.type "list",data:=.seq its.toArray n }) (hf:f { cls:=.type "list",data:=.seq its.toArray n }={ cls:=.type "list",data:=.seq its'.toArray n' }) (r:Vals ys its') (hz:ys.length<=sizeLine) (t:Nat):
  Inv X pins σ (upd H p (.lst ys)) { s with heap:=s.heap.update p f,toks:=t }:=by
 have e:(s.heap.update p f).get? p=some { cls:=.type "list",data:=.seq its'.toArray n' }:=by
  rw [get?_update_self f ho (by rw [hf] <;> rfl),hf]
 refine I.write (x:=p) (e:=p) (by rw [h];trivial) (.inl rfl) (fun b u hb q=>(get?_update_other _ _ (Ne.symm hb)).trans q) ⟨_,e⟩ ?_
 exact ⟨hz,its',n',r,e⟩
def rSetL:V->V->V->Hp->(Hp->Prop)->Prop:=fun o i v H Q=>∃p xs k j,o=.ref p/\i=.int k/\H p=some (.lst xs)/\ixN xs.length k=some j/\Q (upd H p (.lst (xs.set j v)))
theorem set_list:PSet X rSetL:=by
 intro pins s σ H o i v ov iv u Q I ro ri rv h
 obtain ⟨p,xs,k,j,rfl,rfl,hp,hj,q⟩:=h
 cases ro
 obtain ⟨t,rfl⟩:=ri
 obtain ⟨its,n,r,ho,hz⟩:=I.lst hp
 obtain ⟨h1,h2,h3,h4⟩:=b5c hj
 have hl:=r.length
 have hn:=a8l
 have I':Inv X pins σ (upd H p (.lst (xs.set j v))) { s with heap:=s.heap.update p (Obj.mapSeq (·.setIfInBounds j u)) }:=
  I.lstUpd hp ho (b29 its n j u) (r.set rv j) (by rw [length_set];exact hz) s.toks
 by_cases h0:0<=k
 ·have hk:k.toNat=j:=by
   rw [seqIndex_of h0 h4] at h1
   exact Option.some.inj h1
  exact PySem.W.ki_setAt ho h0 (by omega) (by rw [size_toArray,←hl];exact h4) (by rw [hk];exact ⟨_,I',q⟩)
 ·have hk:(k+(its.toArray.size:Int)).toNat=j:=by
   rw [seqIndex_neg (by omega) h3] at h1
   rw [size_toArray,←hl]
   exact Option.some.inj h1
  exact PySem.W.ki_setBack ho (by omega) (by rw [size_toArray,←hl];exact h3) (by omega) (by rw [hk];exact ⟨_,I',q⟩)
theorem a9w (lo hi:Option Int) (n:Nat):(sliceBounds lo hi none n).1=((HT.sIx n 0 lo:Nat):Int)/\(sliceBounds lo hi none n).2.1=((HT.sIx n n hi:Nat):Int)/\(sliceBounds lo hi none n).2.2=1:=by
 refine ⟨?_,?_,rfl⟩
 ·cases lo with
  | none=>simp [sliceBounds,HT.sIx]
  | some i=>
   simp only [sliceBounds,HT.sIx,Option.getD_none,show (1:Int) > 0 by decide,if_true]
   by_cases h:i<0
   ·simp only [h,if_true] <;> omega
   ·simp only [h,if_false] <;> omega
 ·cases hi with
  | none=>simp [sliceBounds,HT.sIx]
  | some i=>
   simp only [sliceBounds,HT.sIx,Option.getD_none,show (1:Int) > 0 by decide,if_true]
   by_cases h:i<0
   ·simp only [h,if_true] <;> omega
   ·simp only [h,if_false] <;> omega
theorem a8A (its:List Value) (lo hi:Option Int):slicePick its.toArray lo hi none=((its.drop (HT.sIx its.length 0 lo)).take (HT.sIx its.length its.length hi - HT.sIx its.length 0 lo)).toArray:=by
 obtain ⟨h1,h2,h3⟩:=a9w lo hi its.toArray.size
 unfold slicePick
 rw [h1,h2,h3]
 simp only [sliceRange_one,pick_run,size_toArray] <;> rfl
def rSlL (K:Frag):V->Option Int->Option Int->Hp->VK->Prop:=fun x lo hi H Q=>∃a xs,x=.ref a/\SqL K H a xs/\∀p,H p=none->Q (.ref p) (upd H p (.lst (cutV xs lo hi)))
theorem sl_list:SlR X (rSlL X.K):=by
 intro pins s σ H x v vl vu lo hi sl Q I rx hs pl pu h
 obtain ⟨a,xs,rfl,hx,q⟩:=h
 cases rx
 obtain ⟨its,r,ht,hz⟩:=I.list hx
 have hlen:=r.length
 refine ⟨"list",_,slot_list_getitem.lookup,ht.isList.typeIs,?_⟩
 refine wpAny_getItem_list_slice ht.isList hs pl pu .none (by simp) ?_ (by rw [size_toArray] <;> omega)
 rw [a8A,←hlen]
 refine ⟨.ref s.heap.objs.size,_,I.laid (t':=s.toks) (o:=.lst (cutV xs lo hi)) (fun b ob q=>get?_push_of_some _ q) (le_refl _) ?_,rfl,q _ (I.hok.fresh (le_refl _))⟩
 exact ⟨le_trans (a7D xs lo hi) hz,_,0,(r.drop (HT.sIx xs.length 0 lo)).take (HT.sIx xs.length xs.length hi - HT.sIx xs.length 0 lo),get?_push_size _ rfl⟩
def a76:V->Bool
 | .non=>true
 | .bl _=>true
 | .int _=>true
 | .str _=>true
 | _=>false
def eqV:V->V->Bool
 | .non,.non=>true
 | .bl a,.bl b=>a == b
 | .bl a,.int b=>(if a then 1 else 0) == b
 | .int a,.bl b=>a == (if b then 1 else 0)
 | .int a,.int b=>a == b
 | .str a,.str b=>a == b
 | _,_=>false
theorem eqAt_V {A:Around} {s:Shared} {y x:V} {u v:Value} (ry:RelV y u) (rx:RelV x v) (fy:a76 y=true) (fx:a76 x=true):SeqAt.EqAt A s u v (eqV y x):=by
 cases y with
 | non=>
  cases ry
  cases x with
  | non=>cases rx;exact SeqAt.EqAt.same _
  | bl b=>cases rx;exact SeqAt.EqAt.none_bool b
  | int b=>obtain ⟨t,rfl⟩:=rx;exact SeqAt.EqAt.none_int b t
  | str b=>obtain ⟨t,rfl⟩:=rx;exact SeqAt.EqAt.none_str b t
  | _=>exact absurd (show false=true from fx) Bool.false_ne_true
 | bl a=>
  cases ry
  cases x with
  | non=>cases rx;exact SeqAt.EqAt.bool_none a
  | bl b=>cases rx;exact SeqAt.EqAt.bool_bool a b
  | int b=>obtain ⟨t,rfl⟩:=rx;exact SeqAt.EqAt.bool_int a b t
  | str b=>obtain ⟨t,rfl⟩:=rx;exact SeqAt.EqAt.bool_str a b t
  | _=>exact absurd (show false=true from fx) Bool.false_ne_true
 | int a=>
  obtain ⟨t',rfl⟩:=ry
  cases x with
  | non=>cases rx;exact SeqAt.EqAt.int_none a t'
  | bl b=>cases rx;exact SeqAt.EqAt.int_bool a t' b
  | int b=>obtain ⟨t,rfl⟩:=rx;exact SeqAt.EqAt.int_int a t' b t
  | str b=>obtain ⟨t,rfl⟩:=rx;exact SeqAt.EqAt.int_str a t' b t
  | _=>exact absurd (show false=true from fx) Bool.false_ne_true
 | str a=>
  obtain ⟨t',rfl⟩:=ry
  cases x with
  | non=>cases rx;exact SeqAt.EqAt.str_none a t'
  | bl b=>cases rx;exact SeqAt.EqAt.str_bool a t' b
  | int b=>obtain ⟨t,rfl⟩:=rx;exact SeqAt.EqAt.str_int a t' b t
  | str b=>obtain ⟨t,rfl⟩:=rx;exact SeqAt.EqAt.str_str a t' b t
  | _=>exact absurd (show false=true from fx) Bool.false_ne_true
 | _=>exact absurd (show false=true from fy) Bool.false_ne_true
def eqU (x:V) (u:Value):Bool:=match u with
 | .none=>eqV .non x
 | .bool b=>eqV (.bl b) x
 | .int i _=>eqV (.int i) x
 | .str z _=>eqV (.str z) x
 | _=>false
theorem eqU_of {x y:V} {u:Value} (r:RelV y u) (f:a76 y=true):eqU x u=eqV y x:=by
 cases y with
 | non=>cases r;rfl
 | bl b=>cases r;rfl
 | int i=>obtain ⟨t,rfl⟩:=r;rfl
 | str z=>obtain ⟨t,rfl⟩:=r;rfl
 | _=>exact absurd (show false=true from f) Bool.false_ne_true
theorem a7K {x:V}:∀{xs:List V} {us:List Value},Vals xs us->xs.all a76=true->us.any (eqU x)=xs.any fun y=>eqV y x
 | _,_,.nil,_=>rfl
 | y::xs,u::us,.cons r t,f=>by
  rw [List.all_cons,and_eq_true] at f
  rw [any_cons,any_cons,eqU_of r f.1,a7K t f.2]
theorem a6p {A:Around} {s:Shared} {x:V} {v:Value} (rx:RelV x v) (fx:a76 x=true):∀{xs:List V} {us:List Value},Vals xs us->xs.all a76=true->∀u∈us,SeqAt.EqAt A s u v (eqU x u)
 | _,_,.nil,_=>fun u hu=>by cases hu
 | y::xs,u::us,.cons r t,f=>fun u' hu=>by
  rw [List.all_cons,and_eq_true] at f
  rcases mem_cons.mp hu with rfl|hu
  ·rw [eqU_of r f.1];exact eqAt_V r rx f.1 fx
  ·exact a6p rx fx t f.2 u' hu
def inV (x:V) (xs:List V):Bool:=xs.any fun y=>eqV y x
def rIn (K:Frag) (neg:Bool):R2:=fun x y H Q=>∃p xs,y=.ref p/\(SqL K H p xs\/SqT K H p xs)/\a76 x=true/\xs.all a76=true/\Q (.bl (if neg then !inV x xs else inV x xs)) H
theorem b4G:OpR X (compareOp .In) (rIn X.K false):=by
 intro pins s σ H x y v u Q I rx ry h
 obtain ⟨p,xs,rfl,hq,fx,fs,q⟩:=h
 cases ry
 rcases hq with hq|hq
 ·obtain ⟨its,r,pl,hz⟩:=I.list hq
  refine SeqAt.in_listAt (eqU x) pl.isList (fun w hw=>a6p rx fx r fs w (by simpa using hw)) ⟨.bl _,H,I,rfl,?_⟩
  rw [show its.toArray.any (eqU x)=its.any (eqU x) by simp,a7K r fs]
  exact q
 ·obtain ⟨its,r,pl,hz⟩:=I.tuple hq
  refine SeqAt.in_tupleAt (eqU x) pl (fun w hw=>a6p rx fx r fs w (by simpa using hw)) ⟨.bl _,H,I,rfl,?_⟩
  rw [show its.toArray.any (eqU x)=its.any (eqU x) by simp,a7K r fs]
  exact q
theorem a9O:OpR X (compareOp .NotIn) (rIn X.K true):=by
 intro pins s σ H x y v u Q I rx ry h
 obtain ⟨p,xs,rfl,hq,fx,fs,q⟩:=h
 cases ry
 rcases hq with hq|hq
 ·obtain ⟨its,r,pl,hz⟩:=I.list hq
  refine SeqAt.notIn_listAt (eqU x) pl.isList (fun w hw=>a6p rx fx r fs w (by simpa using hw)) ⟨.bl _,H,I,rfl,?_⟩
  rw [show its.toArray.any (eqU x)=its.any (eqU x) by simp,a7K r fs]
  exact q
 ·obtain ⟨its,r,pl,hz⟩:=I.tuple hq
  refine SeqAt.notIn_tupleAt (eqU x) pl (fun w hw=>a6p rx fx r fs w (by simpa using hw)) ⟨.bl _,H,I,rfl,?_⟩
  rw [show its.toArray.any (eqU x)=its.any (eqU x) by simp,a7K r fs]
  exact q
theorem a6T:a2X X (.builtin "len") (fun xs H Q=>∃p ys,xs=[.ref p]/\(SqL X.K H p ys\/SqT X.K H p ys)/\Q (.int ys.length) H):=by
 intro pins s σ H xs us Q I r h
 obtain ⟨p,ys,rfl,hq,q⟩:=h
 obtain ⟨u,rfl,rx⟩:=a6d r
 cases rx
 have hn:=a8l
 rcases hq with hq|hq
 ·obtain ⟨its,r',pl,hz⟩:=I.list hq
  have hlen:=r'.length
  exact Calls.call_len_list pl.isList (by simp only [size_toArray] <;> omega) ⟨.int ys.length,H,I.tok _,⟨s.toks+1,by rw [size_toArray,hlen]⟩,q⟩
 ·obtain ⟨its,r',pl,hz⟩:=I.tuple hq
  have hlen:=r'.length
  exact len_tuple pl (by simp only [size_toArray] <;> omega) ⟨.int ys.length,H,I.tok _,⟨s.toks+1,by rw [size_toArray,hlen]⟩,q⟩
theorem b0w:a2X X (.builtin "len") (fun xs H Q=>∃z,xs=[.str z]/\z.length<=sizeLine/\Q (.int z.length) H):=by
 intro pins s σ H xs us Q I r h
 obtain ⟨z,rfl,hz,q⟩:=h
 obtain ⟨u,rfl,t,rfl⟩:=a6d r
 have hn:=a8l
 exact len_str (by omega) ⟨.int z.length,H,I.tok _,⟨_,rfl⟩,q⟩
theorem a6S:a2X X (.type "list") (fun xs H Q=>∃p ys,xs=[.ref p]/\(SqL X.K H p ys\/SqT X.K H p ys)/\∀l,H l=none->Q (.ref l) (upd H l (.lst ys))):=by
 intro pins s σ H xs us Q I r h
 obtain ⟨p,ys,rfl,hq,q⟩:=h
 obtain ⟨u,rfl,rx⟩:=a6d r
 cases rx
 have fin:∀(its:List Value),Vals ys its->ys.length<=sizeLine->∀(h':Heap) (c':Nat),(∀b o',s.heap.get? b=some o'->h'.get? b=some o')->
   h'.get? s.heap.objs.size=some { cls:=.type "list",dict:=none,data:=.seq its.toArray c',slots:=#[] }->EP X pins σ Q (.ref s.heap.objs.size) { s with heap:=h' }:=fun its r' hz h' c' kp e=>
  ⟨.ref s.heap.objs.size,_,I.laid (t':=s.toks) kp (le_refl _) (show a3G X.prog X.w _ h' _ (.lst ys) from ⟨hz,its,c',r',e⟩),rfl,q _ (I.hok.fresh (le_refl _))⟩
 rcases hq with hq|hq
 ·obtain ⟨its,r',pl,hz⟩:=I.list hq
  have hlen:=r'.length
  obtain ⟨o,ho,hc,n,hd⟩:=pl.isList
  exact call_list_seq p (.inl rfl) ho hc hd (fun h' c' kp e=>fin its r' hz h' c' kp e) (by simp only [size_toArray] <;> omega)
 ·obtain ⟨its,r',pl,hz⟩:=I.tuple hq
  have hlen:=r'.length
  obtain ⟨o,ho,hc,n,hd⟩:=pl
  exact call_list_seq p (.inr rfl) ho hc hd (fun h' c' kp e=>fin its r' hz h' c' kp e) (by simp only [size_toArray] <;> omega)
theorem a6A:a2X X (.type "tuple") (fun xs H Q=>∃p ys,xs=[.ref p]/\((SqL X.K H p ys/\∀l,H l=none->Q (.ref l) (upd H l (.tup ys)))\/(SqT X.K H p ys/\Q (.ref p) H))):=by
 intro pins s σ H xs us Q I r h
 obtain ⟨p,ys,rfl,h⟩:=h
 obtain ⟨u,rfl,rx⟩:=a6d r
 cases rx
 rcases h with ⟨hq,q⟩|⟨hq,q⟩
 ·obtain ⟨its,r',pl,hz⟩:=I.list hq
  have hlen:=r'.length
  refine call_tuple_list pl.isList (fun h' kp=>?_) (by simp only [size_toArray] <;> omega)
  have I1:Inv X pins σ H { s with heap:=h' }:=I.kept (t':=s.toks) kp
  have I2:Inv X pins σ (upd H h'.objs.size (.tup ys)) { s with heap:=h'.push { cls:=.type "tuple",data:=.seq its.toArray } }:=
   I1.laid (t':=s.toks) (fun b o e=>get?_push_of_some _ e) (le_refl _) (show a3G X.prog X.w _ _ _ (.tup ys) from ⟨hz,its,r',IsTup.new _ _⟩)
  exact ⟨.ref h'.objs.size,_,I2,rfl,q _ (I1.hok.fresh (le_refl _))⟩
 ·obtain ⟨its,r',pl,hz⟩:=I.tuple hq
  exact call_tuple_same pl ⟨.ref p,H,I,rfl,q⟩
def tyV (K:Frag) (T:String) (x:V) (H:Hp):Prop:=match x with
 | .str _=>T = "str"
 | .int _=>T = "int"
 | .ref p=>(T = "list" /\ ∃xs,SqL K H p xs)\/(T = "tuple" /\ ∃o,K.lookup p=some o/\o.cls=.type "tuple" /\ o.dict=none)\/
   (T = "dict" /\ ((∃kvs,H p=some (.dK kvs))\/∃kvs,H p=some (.dT kvs)))\/(T = "set" /\ ∃S n,H p=some (.set S n))
 | _=>False
theorem tyV_is {pins:List (Addr×Obj)} {σ:St} {H:Hp} {s:Shared} {T:String} {x:V} {v:Value} (I:Inv X pins σ H s) (r:RelV x v) (ty:tyV X.K T x H):
  s.TypeIs v T/\∀a,v=.ref a->∃ob,s.heap.get? a=some ob/\ob.dict=none:=by
 cases x with
 | str z=>
  obtain ⟨t,rfl⟩:=r
  cases (show T = "str" from ty)
  exact ⟨typeIs_str s z t,fun _ e=>nomatch e⟩
 | int i=>
  obtain ⟨t,rfl⟩:=r
  cases (show T = "int" from ty)
  exact ⟨typeIs_int s i t,fun _ e=>nomatch e⟩
 | ref p=>
  cases r
  rcases ty with ⟨rfl,xs,hq⟩|⟨rfl,o,hk,hc,hd⟩|⟨rfl,hk⟩|⟨rfl,S,n,hk⟩
  ·obtain ⟨its,_,pl,_⟩:=I.list hq
   refine ⟨pl.isList.typeIs,fun a e=>?_⟩
   cases e
   obtain ⟨o,n,e,c,hd,_⟩:=pl
   exact ⟨o,e,hd⟩
  ·refine ⟨⟨o,I.kIn p o hk,hc⟩,fun a e=>?_⟩
   cases e
   exact ⟨o,I.kIn _ o hk,hd⟩
  ·have z:∃o,s.heap.get? p=some o/\o.ExactDict:=by
    rcases hk with ⟨kvs,hk⟩|⟨kvs,hk⟩
    ·obtain ⟨_,_,_,_,o,_,_,e,ex,_⟩:=I.hok p _ hk
     exact ⟨o,e,ex⟩
    ·obtain ⟨_,_,_,_,o,_,_,e,ex,_⟩:=I.hok p _ hk
     exact ⟨o,e,ex⟩
   obtain ⟨o,e,ex⟩:=z
   refine ⟨⟨o,e,ex.1⟩,fun a e2=>?_⟩
   cases e2
   exact ⟨o,e,ex.2.1⟩
  ·obtain ⟨o,_,_,_,e,ex,_⟩:=I.hok p _ hk
   refine ⟨⟨o,e,ex.1⟩,fun a e2=>?_⟩
   cases e2
   exact ⟨o,e,ex.2.1⟩
 | _=>exact False.elim ty
def tBM0 (K:Frag) (T:String) (r:V->List V->Hp->VK->Prop) (to:TE):TE:=fun σ H Q=>to σ H fun x H1=>tyV K T x H1/\r x [] H1 Q
def tBM (K:Frag) (T:String) (r:V->List V->Hp->VK->Prop) (to:TE) (t:TA):TE:=fun σ H Q=>to σ H fun x H1=>tyV K T x H1/\t σ H1 fun xs H2=>r x xs H2 Q
variable {o e:Expr} {es:List Expr} {to:TE} {t:TA} {name:Str} {apos cpos:Pos} {T id:String} {r:V->List V->Hp->VK->Prop}
theorem pe_bm (pa:PlainAttrs T) (slot:Slot T name id) (hty:typeOf (.builtin id)=pure (.type "method_descriptor")) (hm:MtR X id r) (ho:PE X o to) (ha:PA X (e::es) t)
  (hbase:attributeBase o name X.env (eval o X.env)=eval o X.env:=by rfl)
  (hfew:((backTo cpos (starEach (e::es) X.env)).all (fun x=>!x.1) && (backToKw cpos (keywordEach [] X.env)).all (fun x=>x.1.isSome)
   && decide ((e::es).length+([]:List Keyword).length+(if ([]:List Keyword).isEmpty then 0 else 1)<30))=true:=by rfl)
  (hline:(apos.endLine == cpos.line)=true:=by rfl) (hs:starEach (e::es) X.env=(false,eval e X.env)::starEach es X.env:=by rfl) (hplain:(backTo cpos (starEach es X.env)).any (·.1)=false:=by rfl):
  PE X (.Call (.Attribute o name apos) (e::es) [] cpos) (tBM X.K T r to t):=by
 intro pins s σ H Q I h
 refine wpAny_Call_method_late hbase hfew hline rfl (thn (ho pins s σ H _ I h) fun v s1 ⟨x,H1,I1,r1,ty,q1⟩=>?_)
 obtain ⟨h1,h2⟩:=tyV_is I1 r1 ty
 refine ⟨T,id,pa,slot,hty,h1,h2,?_⟩
 have hA:=ha cpos pins s1 σ H1 _ I1 q1
 rw [hs] at hA ⊢
 refine Calls.callWith_builtin (by show (false || (backTo cpos (starEach es X.env)).any (·.1))=false;rw [hplain] <;> rfl) (Calls.evalArgs_plain ?_)
 exact thn hA fun us s2 ⟨vs,H2,I2,r2,q2⟩=>hm pins s2 σ H2 x vs v us Q I2 r1 r2 q2
end
def MtM (X:Cx) (id:String) (r:V->List V->Hp->VK->Prop):Prop:=
 ∀(pins:List (Addr×Obj)) (s:Shared) (σ:St) (H:Hp) (x:V) (xs:List V) (v:Value) (us:List Value) (Q:VK),Inv X pins σ H s->RelV x v->Vals xs us->r x xs H Q->
  wpAny (model X.prog X.w) X.A (call (.builtin id) (v::us)) (EP X pins σ Q) X.xe s
theorem Vals.one:∀{x:V} {us:List Value},Vals [x] us->∃u,us=[u]/\RelV x u
 | _,_,.cons r .nil=>⟨_,rfl,r⟩
theorem Vals.rep {xs:List V} {us:List Value} (h:Vals xs us):∀k:Nat,Vals (replicate k xs).flatten (replicate k us).flatten
 | 0=>.nil
 | k+1=>by
  rw [replicate_succ,replicate_succ,flatten_cons,flatten_cons]
  exact Vals.append h (Vals.rep h k)
theorem b0m (its:List Value):∀(k:Nat) (acc:List Value),
  List.foldl (fun x1 x2=>x1++x2) acc.toArray (replicate k its.toArray)=(acc++(replicate k its).flatten).toArray
 | 0,acc=>by simp
 | k+1,acc=>by
  have e:acc.toArray++its.toArray=(acc++its).toArray:=by simp
  have e2:(acc++its)++(replicate k its).flatten=acc++(replicate (k+1) its).flatten:=by
   rw [replicate_succ,flatten_cons,List.append_assoc]
  rw [←e2,←b0m its k (acc++its),←e,replicate_succ,foldl_cons]
section
variable {X:Cx} {pins:List (Addr×Obj)} {σ:St} {H:Hp} {s:Shared} {l b:Addr} {xs ys zs:List V}
theorem Inv.lset {its its':List Value} {n:Nat} {f:Array Value->Array Value} {t':Nat} (I:Inv X pins σ H s) (hH:H l=some (.lst xs))
  (e:s.heap.get? l=some { cls:=.type "list",data:=.seq its.toArray n }) (hf:f its.toArray=its'.toArray) (hv:Vals ys its') (hz:ys.length<=sizeLine):
  Inv X pins σ (upd H l (.lst ys)) { s with heap:=s.heap.update l (Obj.mapSeq f),toks:=t' }:=by
 have q:=PySem.IsL.update e f
 rw [hf] at q
 refine I.write (x:=l) (e:=l) (by rw [hH];exact trivial) (.inl rfl) (fun b' u hb hu=>(get?_update_other s.heap (Obj.mapSeq f) (Ne.symm hb)).trans hu) ⟨_,q⟩ ?_
 exact ⟨hz,its',_,hv,q⟩
theorem Inv.lnew {its:List Value} {t':Nat} (I:Inv X pins σ H s) (hv:Vals ys its) (hz:ys.length<=sizeLine):
  Inv X pins σ (upd H s.heap.objs.size (.lst ys)) { s with heap:=s.heap.push { cls:=.type "list",data:=.seq its.toArray },toks:=t' }:=
 I.laid (fun _ _ q=>get?_push_of_some _ q) (le_refl _) ⟨hz,its,0,hv,get?_push_size _ rfl⟩
theorem Inv.fresh (I:Inv X pins σ H s):H s.heap.objs.size=none:=I.hok.fresh (le_refl _)
theorem Inv.lstM (I:Inv X pins σ H s) (hH:H l=some (.lst xs)):xs.length<=sizeLine/\∃(its:List Value) (n:Nat),Vals xs its/\xs.length=its.length/\s.heap.get? l=some { cls:=.type "list",data:=.seq its.toArray n }:=by
 obtain ⟨z,its,n,r,e⟩:=I.hok l _ hH
 exact ⟨z,its,n,r,r.length,e⟩
theorem notLongL {n:Nat} (h:n<=sizeLine):Builtin.List.listTooLong n=false:=by
 unfold Builtin.List.listTooLong
 exact decide_eq_false (by omega)
end
section
variable {X:Cx}
def rAppend:V->List V->Hp->VK->Prop:=fun x vs H Q=>∃l xs y,x=.ref l/\vs=[y]/\H l=some (.lst xs)/\xs.length<sizeLine/\Q .non (upd H l (.lst (xs++[y])))
theorem a97:MtM X "list.append" rAppend:=by
 intro pins s σ H x vs v us Q I rx rv h
 obtain ⟨l,xs,y,rfl,rfl,hH,hz,q⟩:=h
 cases rx
 obtain ⟨u,rfl,ru⟩:=rv.one
 obtain ⟨z,its,n,r,hl,e⟩:=I.lstM hH
 refine call_meets F.slot_list_append ⟨_,e,rfl⟩ F.entry_list_append (F.args_list_append_2 _ _) (PySem.list_append l its.toArray n u (by rw [size_toArray];omega)) ⟨e,?_⟩
 refine ⟨.non,_,I.lset (its':=its++[u]) hH e (by simp) (r.append (.cons ru .nil)) ?_,rfl,q⟩
 rw [length_append,length_singleton]
 omega
def rExtend:V->List V->Hp->VK->Prop:=fun x vs H Q=>∃l b xs zs,x=.ref l/\vs=[.ref b]/\H l=some (.lst xs)/\H b=some (.lst zs)/\xs.length+zs.length<=sizeLine/\Q .non (upd H l (.lst (xs++zs)))
def rPop:V->List V->Hp->VK->Prop:=fun x vs H Q=>∃l xs y,x=.ref l/\vs=[]/\H l=some (.lst xs)/\xs[xs.length - 1]?=some y/\Q y (upd H l (.lst xs.dropLast))
def rPopAt:V->List V->Hp->VK->Prop:=fun x vs H Q=>∃l xs i k y,x=.ref l/\vs=[.int i]/\H l=some (.lst xs)/\-(2 ^ 63)<=i/\i<2 ^ 63/\seqIndex? i xs.length=some k/\xs[k]?=some y/\Q y (upd H l (.lst (xs.eraseIdx k)))
def rReverse:V->List V->Hp->VK->Prop:=fun x vs H Q=>∃l xs,x=.ref l/\vs=[]/\H l=some (.lst xs)/\Q .non (upd H l (.lst xs.reverse))
def rClear:V->List V->Hp->VK->Prop:=fun x vs H Q=>∃l xs,x=.ref l/\vs=[]/\H l=some (.lst xs)/\Q .non (upd H l (.lst []))
def rCat:R2:=fun x y H Q=>∃l b xs zs,x=.ref l/\y=.ref b/\H l=some (.lst xs)/\H b=some (.lst zs)/\xs.length+zs.length<=sizeLine/\∀p,H p=none->Q (.ref p) (upd H p (.lst (xs++zs)))
def rRep:R2:=fun x y H Q=>∃l k xs,x=.ref l/\y=.int k/\H l=some (.lst xs)/\-(2 ^ 63)<=k/\k<2 ^ 63/\xs.length * k.toNat<=sizeLine/\
 ∀p,H p=none->Q (.ref p) (upd H p (.lst (replicate k.toNat xs).flatten))
theorem len_rep {α:Type} (xs:List α) (k:Nat):(replicate k xs).flatten.length=k * xs.length:=by
 induction k with
 | zero=>simp
 | succ k ih=>rw [replicate_succ,flatten_cons,length_append,ih,Nat.succ_mul,Nat.add_comm]
theorem op_rep:OpR X (binaryOp .Mult) rRep:=by
 intro pins s σ H x y v u Q I rx ry h
 obtain ⟨l,k,xs,rfl,rfl,hH,h1,h2,hz,q⟩:=h
 cases rx
 obtain ⟨t,rfl⟩:=ry
 obtain ⟨z,its,n,r,hl,e⟩:=I.lstM hH
 have hlen:its.toArray.size * k.toNat<=sizeLine:=by rw [size_toArray,←hl];exact hz
 have hcap:¬its.toArray.size * k.toNat > (2 ^ 63 - 1) / 8:=by
  have:(sizeLine:Nat)<=(2 ^ 63 - 1) / 8:=by decide
  omega
 have hfit:¬(!Builtin.List.listFitsIndex k)=true:=by
  rw [fitsIndex_both h1 h2]
  exact Bool.false_ne_true
 have hlong:¬Builtin.List.listTooLong (its.toArray.size * k.toNat)=true:=by
  rw [notLongL hlen]
  exact Bool.false_ne_true
 have hnew:List.foldl (fun x1 x2=>x1++x2) #[] (replicate (if its.toArray.isEmpty=true then 0 else k.toNat) its.toArray)=(replicate k.toNat its).flatten.toArray:=by
  have f0:∀m:Nat,List.foldl (fun x1 x2=>x1++x2) #[] (replicate m its.toArray)=(replicate m its).flatten.toArray:=fun m=>by
   have:=b0m its m []
   rw [nil_append] at this
   exact this
  rw [f0]
  cases its with
  | nil=>simp
  | cons a r'=>rw [if_neg (by simp)]
 refine wpAny_binaryOp_repeat_ref (T := "list") (U := "int") (by decide) ⟨_,e,rfl⟩ (fun s'=>typeIs_int s' k t) noFill_list_mul F.fills_int_mul F.slot_int_rmul repeat_list F.slot_int_index.lookup
  (call_meets F.slot_int_rmul (typeIs_int s k t) F.entry_int_rmul (F.args_int_rmul_2 _ _) (int___rmul___int_list k t l its.toArray n)
   ⟨e,rfl,⟨_,e,rfl⟩,call_meets F.slot_list_mul ⟨_,e,rfl⟩ F.entry_list_mul (F.args_list_mul_2 _ _) (AutoListH.list___mul___list_int_3 l its.toArray n k t hfit hcap hlong) ⟨e,?_⟩⟩)
 rw [hnew]
 exact ⟨.ref _,_,I.lnew (t':=s.toks) (r.rep k.toNat) (by rw [len_rep,Nat.mul_comm];exact hz),rfl,q _ I.fresh⟩
end
section
variable {prog:Program} {w:World} {A:Around} {E:Value->Shared->Prop} {s:Shared}
set_option maxRecDepth 100000 in
end
section
variable {X:Cx}
end
end L2
namespace Att
open PySem PySem.W PySem.Calls PyProof.Rows
theorem a7y {P:Params} {h:Heap}:∀(ns:List Int) (vs:List Value),WellAll P h vs (ns.map WData.int)->IntsAre vs ns:=by
 intro ns
 induction ns with
 | nil=>
  intro vs w
  rw [map_nil] at w
  cases w
  exact .nil
 | cons n ns ih=>
  intro vs w
  rw [map_cons] at w
  cases w with
  | cons a b=>
   cases a
   exact .cons _ _ (ih _ b)
theorem b4d {l:OpenLaw} {n:Nat} (hn:l.most=some n) {P:Params} {h:Heap} {args:List WData} {vals:List Value}
  (hpre:l.row.toRowW.claim.pre args=true) (hwl:WellAll P h vals args):
  ∃a vs ns,vals=[Value.ref a]/\args=[WData.list (ns.map WData.int)]/\h.get? a=some { cls:=.type "list",data:=.seq vs.toArray }/\IntsAre vs ns/\ns.length<=n:=by
 have hsh:WShape.hasAll [] args [.list .int]=true:=(pre_splitW hpre).1
 have hc:l.pre.holds [] { args:=args }=true:=(pre_splitW hpre).2
 obtain ⟨d,r,rfl,h1,h2⟩:=hasAllW_cons hsh
 obtain rfl:=hasAllW_nil h2
 obtain ⟨xs,rfl,h3⟩:=hasW_list h1
 obtain ⟨ns,rfl⟩:=items_int h3
 have hlen:ns.length<=n:=by
  unfold OpenLaw.pre at hc
  have h4:(WTm.not (.lt (.lit (.int (n:Int))) (.len (.arg 0)))).holds [] { args:=[.list (ns.map .int)] }=true:=by
   have h4:=(holds_andW hc).1
   rw [hn] at h4
   exact h4
  have h5:=condW_of h4 (w_not (w_lt w_lit (w_len_list (w_arg rfl))))
  rw [length_map] at h5
  refine Nat.le_of_not_lt fun q=>?_
  have q':(n:Int)<((ns.length:Nat):Int):=by omega
  first
   | (rw [decide_eq_true q'] at h5;exact absurd h5 (by decide))
   | (simp at h5;omega)
 cases hwl with
 | cons w1 w2=>
  cases w2
  cases w1 with
  | list ho hall=>exact ⟨_,_,ns,rfl,rfl,ho,a7y ns _ hall,hlen⟩
theorem b4r (l:OpenLaw) (args:List WData):l.row.toRowW.claim.post args (.bool true) args=true:=
 postW_of (r:=l.row.toRowW) (X:=(true == true))
  (show WShape.has [] (.bool true) .bool=true by first|rfl|decide|simp [WShape.has,WShape.arms,WShape.armsAll])
  (show (WTm.eq .res (.lit (.bool true))).value [] { args:=args,res:=some (.bool true),after:=args }=some (.bool (true == true)) from w_eq_bool (w_res rfl) w_lit) rfl
theorem attach_call {l:OpenLaw} {n:Nat} {q:Program} {loose:List Str} {XP:(Str->Option Value)->Heap->Prop} {YP:World->Heap->Prop} {d:DefRec}
  (hn:l.most=some n) (hdf:d.params.defaults=[])
  (call:∀(w:World) (s₀ s₁:Shared) (mg mb:Str->Option Value) (fa:Addr) (o:Obj) (pm cd doc:Value) (a:Addr) (vs:List Value) (ns:List Int),
   Ground q loose [] XP w s₀ mg mb s₁.heap->YP w s₁.heap->
   s₁.heap.get? fa=some o->o.data=.func (docDef d.name d.params d.body d.scope pm cd doc)->s₁.heap.CodeRec cd d.name->mg d.name=some (.ref fa)->
   s₁.heap.get? a=some { cls:=.type "list",data:=.seq vs.toArray }->IntsAre vs ns->ns.length<=n->s₁.gens=#[]->
   codeAny (model l.prog w) callerA (.call (.ref fa) ⟨[.ref a],[]⟩) (fun r s'=>r=.ok (.ret (.bool true))/\OldK s₁.heap s'.heap/\s'.os=s₁.os/\AllBare s'.gens) s₁):
  WalkO q loose XP YP l.row.toRowW d [] (fun f vs=>PySem.call f vs):=by
 intro w s₀ s₁ mg mb G Y fa o pm cd doc dV kV ho hd hcd hD hmg hg args vals as hpre hlay hrd hwl hlo
 obtain rfl:dV=.none:=Dflts.none hD hdf
 obtain rfl:kV=.none:=Dflts.noKw hD
 obtain ⟨a,vs,ns,rfl,rfl,hobj,hints,hlen⟩:=b4d hn hpre hwl
 refine enter_call (codeAny_mono (call w s₀ s₁ mg mb fa o pm cd doc a vs ns G Y ho (fd_plain hd) hcd hmg hobj hints hlen hg) fun r s' hq=>?_)
 obtain ⟨rfl,h2,h3,h4⟩:=hq
 exact ⟨.inl ⟨.bool true,.bool true,[],rfl,fun _=>rfl,.bool true,b4r l _,fun _=>⟨List.Pairwise.nil,fun _ hm=>(nomatch hm)⟩⟩,h2,h3,h4⟩
section
variable {prog:Program} {w:World} {A:Around} {E:Value->Shared->Prop} {s:Shared} {K:Frag}
def noObjs (h:Heap):Heap:={ h with objs:=#[] }
def ledger (h:Heap) (L d:Addr):List (Addr×Obj):=(List.range h.objs.size).filterMap fun a=>if a=L\/a=d then none else (h.get? a).map fun o=>(a,o)
end
end Att
namespace L2
open PySem PySem.Spec PyProof.Rows
theorem a9p:∀{vs:List Value} {ns:List Int},IntsAre vs ns->Vals (ns.map V.int) vs
 | _,_,.nil=>.nil
 | _,_,.cons n t h=>.cons ⟨t,rfl⟩ (a9p h)
def Only (H:Hp):Prop:=∀b,H b=none\/∃o xs,H b=some (.frz o (.lst xs))
abbrev KOf {K:Frag} {h:Heap} (_:K.In h):Frag:=K
def a3l (s:Stmt) (j:Nat):Stmt:=match s with
 | .ClassDef _ _ _ body _ _ _ _ _ _ _=>body.getD j (.Pass ⟨0,0,0,0⟩)
 | _=>.Pass ⟨0,0,0,0⟩
def a0v (s:Stmt):Arguments:=match s with
 | .FunctionDef _ a _ _ _ _ _ _ _ _=>a
 | _=>{ posonlyargs:=[],args:=[],vararg:=none,kwonlyargs:=[],kw_defaults:=[],kwarg:=none,defaults:=[] }
def a0q (s:Stmt):List Stmt:=match s with
 | .FunctionDef _ _ b _ _ _ _ _ _ _=>b
 | _=>[]
def a0g (s:Stmt):Scope:=match s with
 | .FunctionDef _ _ _ _ _ _ sc _ _ _=>sc
 | _=>{ kind:=.function,names:=[],isGenerator:=false,isCoroutine:=false }
abbrev CX0:CXT:=fun _ _ _ _ _ _=>False
abbrev E0:XK:=fun _ _ _=>False
theorem b4C {X:Cx}:a8v CX0 X E0:=fun _ _ _ _ _ _ _ h=>h.elim
structure Fun (K:Frag) (x qual:Str) (st:Stmt) (f:Addr) (fd:FuncData):Prop where
 ex:∃(oc:Value) (od:Option Addr) (kV doc pm:Value) (an:Option Addr) (cdv ct:Value) (osl:Array (Option Value)),
  fd=fnOf x qual (a0v st) (a0q st) (a0g st) .none kV doc pm an cdv ct/\K.lookup f=some ⟨oc,od,.func fd,osl⟩/\codeIn K cdv qual=true
 kp:keepIn K (.ref f)=true
section
variable {P:Program} {w:World} {K:Frag} {mg:Str->Option Value} {base:Heap}
theorem Fun.ok {x qual:Str} {st:Stmt} {f:Addr} {fd:FuncData} {N ps:List Str} {k:Nat} {sp:Sp} (F:Fun K x qual st f fd) (S:a0w N ps (a0g st)) (len:∀vs H Q E,sp vs H Q E->vs.length=ps.length)
  (hbody:∀(cdv:Value) (A:Around) (outer:List Env) (s:Shared) (H:Hp) (vs:List V) (Q:VK) (E:XK),Room k (A.deeper (envOfC qual (a0g st) s.heap.objs.size f cdv))->sp vs H Q E->
   ∃t,PSs (cxOf CX0 P w K mg base N qual (a0g st) f cdv A outer s H E).nox (a0q st) t/\t { nx:=fun _ H'=>Q .non H',rt:=Q } (start N vs) H):FnOk P w K mg base CX0 (k+1) f fd ps sp:=by
 obtain ⟨oc,od,kV,doc,pm,an,cdv,ct,osl,rfl,lk,hcd⟩:=F.ex
 refine fn_of lk hcd S len fun A outer s H vs Q E hr hsp=>?_
 obtain ⟨t,h,q⟩:=hbody cdv A outer s H vs Q E hr hsp
 exact ⟨t,h.nox,q⟩
theorem Fun.binds {x qual:Str} {st:Stmt} {f:Addr} {fd:FuncData} {ps:List Str} (F:Fun K x qual st f fd)
  (h:∀(kV doc pm:Value) (an:Option Addr) (cdv ct:Value) (us:List Value),us.length=ps.length->bindArgs (fnOf x qual (a0v st) (a0q st) (a0g st) .none kV doc pm an cdv ct) ⟨us,[]⟩=pure (ps.zip us)):a5s K fd ps []:=by
 obtain ⟨oc,od,kV,doc,pm,an,cdv,ct,osl,rfl,lk,hcd⟩:=F.ex
 exact .all (h kV doc pm an cdv ct)
theorem a6Q {x qual:Str} {st:Stmt} {f:Addr} {oc:Value} {od an:Option Addr} {osl:Array (Option Value)} {kV doc pm cdv ct:Value} (l:K.lookup f=some ⟨oc,od,.func (fnOf x qual (a0v st) (a0q st) (a0g st) .none kV doc pm an cdv ct),osl⟩)
  (c:codeIn K cdv qual=true) (k:keepIn K (.ref f)=true):Fun K x qual st f (fnOf x qual (a0v st) (a0q st) (a0g st) .none kV doc pm an cdv ct):=⟨⟨oc,od,kV,doc,pm,an,cdv,ct,osl,rfl,l,c⟩,k⟩
end
section
variable {X:Cx}
theorem pv (i:Nat) {x:Str} {pos:Pos} (hN:X.N[i]?=some x:=by rfl) (hv:Vis X.env.scope x:=by first|exact Or.inl rfl|exact Or.inr (Or.inl rfl)|exact Or.inr (Or.inr rfl)) (hd:(x == ("__debug__" : Str))=false:=by decide)
  (hcd:(x == ("__classdict__" : Str))=false:=by decide):PE X (.Name x pos) (tVar i):=pe_var hN hv hd hcd
end
theorem iteF {A B:Prop} (h:B):if false=true then A else B:=by
 rw [if_neg Bool.false_ne_true]
 exact h
theorem iteT {A B:Prop} (h:A):if true=true then A else B:=by
 rw [if_pos rfl]
 exact h
def Same (H H':Hp):Prop:=∀b o,H b=some o->H' b=some o
theorem Same.refl (H:Hp):Same H H:=fun _ _ h=>h
theorem Same.trans {H H1 H2:Hp} (a:Same H H1) (b:Same H1 H2):Same H H2:=fun c o h=>b c o (a c o h)
theorem Same.free {H H':Hp} (e:Same H H') {l:Addr} (h:H' l=Option.none):H l=Option.none:=by
 cases q:H l with
 | none=>rfl
 | some o=>
  rw [e l o q] at h
  cases h
theorem Same.seq {K:Frag} {H H':Hp} {a:Addr} {xs:List V} (e:Same H H') (h:SqL K H a xs):SqL K H' a xs:=by
 rcases h with (h|⟨o,h⟩)|h
 ·exact .inl (.inl (e _ _ h))
 ·exact .inl (.inr ⟨o,e _ _ h⟩)
 ·exact .inr h
end L2
namespace L3
open PySem
inductive D where
 | non|bl (b:Bool)|int (i:Int)|str (x:Str)|tup (ds:List D)|lst (ds:List D)|obj (c:String) (ns:List Str) (ds:List D)|fn (k:Nat) (ds:List D)
inductive O where
 | lst (ds:List D)|obj (c:String) (ns:List Str) (ds:List D)|dic (kvs:List (List Int×Int))
def O.val:O->D
 | .lst ds=>.lst ds
 | .obj c ns ds=>.obj c ns ds
 | .dic _=>.non
inductive S where
 | sh (d:D)|own (o:O)
def S.val:S->D
 | .sh d=>d
 | .own o=>o.val
def S.nd:S->Bool
 | .own (.dic _)=>false
 | _=>true
inductive R where
 | ok (s:S)|exc (x:D)
abbrev MEnv:=List (Option S)
inductive Out where
 | next (ρ:MEnv)|brk (ρ:MEnv)|cont (ρ:MEnv)|ret (s:S)|exc (x:D)
abbrev ME:=MEnv->Option R
abbrev MC:=MEnv->Option Out
inductive RI where
 | ok (ds:List D)|exc (x:D)
abbrev MI:=MEnv->Option RI
abbrev MB:=D->MEnv->Option MEnv
@[reducible] def okD (d:D):Option R:=some (.ok (.sh d))
@[reducible] def okI (i:Int):Option R:=okD (.int i)
@[reducible] def okB (b:Bool):Option R:=okD (.bl b)
@[reducible] def okL (ds:List D):Option R:=some (.ok (.own (.lst ds)))
def a1h (r:Option R) (k:D->Option R):Option R:=match r with
 | some (.ok s)=>k s.val
 | some (.exc x)=>some (.exc x)
 | none=>none
def a5N (r:Option R) (k:S->Option Out):Option Out:=match r with
 | some (.ok s)=>k s
 | some (.exc x)=>some (.exc x)
 | none=>none
@[simp] theorem bindV_ok (s:S) (k:D->Option R):a1h (some (.ok s)) k=k s.val:=rfl
@[simp] theorem bindV_exc (x:D) (k:D->Option R):a1h (some (.exc x)) k=some (.exc x):=rfl
@[simp] theorem bindV_none (k:D->Option R):a1h none k=none:=rfl
@[simp] theorem bindO_ok (s:S) (k:S->Option Out):a5N (some (.ok s)) k=k s:=rfl
@[simp] theorem bindO_exc (x:D) (k:S->Option Out):a5N (some (.exc x)) k=some (.exc x):=rfl
@[simp] theorem bindO_none (k:S->Option Out):a5N none k=none:=rfl
@[simp] theorem S.val_sh (d:D):(S.sh d).val=d:=rfl
@[simp] theorem S.val_own (o:O):(S.own o).val=o.val:=rfl
@[simp] theorem O.val_lst (ds:List D):(O.lst ds).val=.lst ds:=rfl
@[simp] theorem O.val_obj (c:String) (ns:List Str) (ds:List D):(O.obj c ns ds).val=.obj c ns ds:=rfl
noncomputable def eVar (i:Nat):ME:=fun ρ=>match ρ[i]? with
 | some (some (.sh d))=>okD d
 | _=>none
noncomputable def eAny (i:Nat):ME:=fun ρ=>match ρ[i]? with
 | some (some (.own (.dic _)))=>none
 | some (some s)=>okD s.val
 | _=>none
noncomputable def eC (d:D):ME:=fun _=>okD d
noncomputable def eUn (f:D->Option R) (a:ME):ME:=fun ρ=>a1h (a ρ) f
noncomputable def eBin (f:D->D->Option R) (a b:ME):ME:=fun ρ=>a1h (a ρ) fun x=>a1h (b ρ) fun y=>f x y
def a1e:List ME->MEnv->(List D->Option R)->Option R
 | [],_,k=>k []
 | e::es,ρ,k=>a1h (e ρ) fun d=>a1e es ρ fun ds=>k (d::ds)
def a0l (f:List D->Option R) (as:List ME):ME:=fun ρ=>a1e as ρ f
def flat:D->Bool
 | .non=>true|.bl _=>true|.int _=>true|.str _=>true|_=>false
def a6Z:Option R->Option R
 | some (.ok s)=>if flat s.val then okD s.val else none
 | _=>none
def a0r (f:List D->Option R) (as:List ME):ME:=fun ρ=>a6Z (a1e as ρ f)
def lim:Nat:=1000000
def eTup (as:List ME):ME:=a0l (fun ds=>if ds.length<=lim then okD (.tup ds) else none) as
def eLst (as:List ME):ME:=a0l (fun ds=>if ds.length<=lim then okL ds else none) as
def asB:D->(Bool->Option R)->Option R
 | .bl b,k=>k b
 | _,_=>none
def eAnd (a b:ME):ME:=fun ρ=>a1h (a ρ) fun x=>asB x fun c=>if c=true then b ρ else okB false
def eOr (a b:ME):ME:=fun ρ=>a1h (a ρ) fun x=>asB x fun c=>if c=true then okB true else b ρ
def dNot (x:D):Option R:=asB x fun c=>okB (!c)
def eNot (a:ME):ME:=eUn dNot a
def eIf (c a b:ME):ME:=fun ρ=>a1h (c ρ) fun x=>asB x fun t=>if t=true then a ρ else b ρ
def sSeq (a b:MC):MC:=fun ρ=>match a ρ with
 | some (.next ρ')=>b ρ'
 | o=>o
def a0F:MC:=fun ρ=>some (.next ρ)
def sBrk:MC:=fun ρ=>some (.brk ρ)
def sCont:MC:=fun ρ=>some (.cont ρ)
def sSet (i:Nat) (e:ME):MC:=fun ρ=>a5N (e ρ) fun s=>some (.next (ρ.set i (some s)))
def sExpr (e:ME):MC:=fun ρ=>a5N (e ρ) fun _=>some (.next ρ)
def sRet (e:ME):MC:=fun ρ=>a5N (e ρ) fun s=>some (.ret s)
def asBO:D->(Bool->Option Out)->Option Out
 | .bl b,k=>k b
 | _,_=>none
def sIf (c:ME) (a b:MC):MC:=fun ρ=>a5N (c ρ) fun s=>asBO s.val fun t=>if t=true then a ρ else b ρ
def dem (i:Nat) (ρ:MEnv):MEnv:=match ρ[i]? with
 | some (some (.own (.dic _)))=>ρ
 | some (some (.own o))=>ρ.set i (some (.sh o.val))
 | _=>ρ
def sDem (i:Nat) (c:MC):MC:=fun ρ=>c (dem i ρ)
def ownL (i:Nat) (ρ:MEnv) (k:List D->Option Out):Option Out:=match ρ[i]? with
 | some (some (.own (.lst ds)))=>k ds
 | _=>none
def a1m (i:Nat) (e:ME):MC:=fun ρ=>ownL i ρ fun ds=>a5N (e ρ) fun s=>if ds.length<lim then some (.next (ρ.set i (some (.own (.lst (ds++[s.val])))))) else none
def a85:D->Option (List D)
 | .lst ds=>some ds
 | .tup ds=>some ds
 | _=>none
def sExtend (i:Nat) (e:ME):MC:=fun ρ=>ownL i ρ fun ds=>a5N (e ρ) fun s=>match a85 s.val with
 | some es=>if ds.length+es.length<=lim then some (.next (ρ.set i (some (.own (.lst (ds++es)))))) else none
 | none=>none
def ixD (n:Nat) (i:Int):Option Nat:=if 0<=i then (if i<n then some i.toNat else none) else if -(n:Int)<=i then some (i+n).toNat else none
def a4h (i:Nat) (k e:ME):MC:=fun ρ=>a5N (e ρ) fun s=>ownL i ρ fun ds=>a5N (k ρ) fun z=>match z.val with
 | .int j=>(match ixD ds.length j with
  | some n=>some (.next (ρ.set i (some (.own (.lst (ds.set n s.val))))))
  | none=>none)
 | _=>none
def a09 (j:Nat):MB:=fun d ρ=>some (ρ.set j (some (.sh d)))
def b1P:List Nat->List D->MEnv->MEnv
 | j::js,d::ds,ρ=>b1P js ds (ρ.set j (some (.sh d)))
 | _,_,ρ=>ρ
def bTup (js:List Nat):MB:=fun d ρ=>match d with
 | .tup ds=>if ds.length=js.length then some (b1P js ds ρ) else none
 | _=>none
def forD (bd:MB) (body:MC):List D->MEnv->Option Out
 | [],ρ=>some (.next ρ)
 | d::ds,ρ=>match bd d ρ with
  | none=>none
  | some ρ1=>match body ρ1 with
   | some (.next ρ2)=>forD bd body ds ρ2
   | some (.cont ρ2)=>forD bd body ds ρ2
   | some (.brk ρ2)=>some (.next ρ2)
   | o=>o
def sFor (it:MI) (bd:MB) (body:MC):MC:=fun ρ=>match it ρ with
 | some (.ok ds)=>forD bd body ds ρ
 | some (.exc x)=>some (.exc x)
 | none=>none
def iSeq (e:ME):MI:=fun ρ=>match e ρ with
 | some (.ok s)=>(a85 s.val).map .ok
 | some (.exc x)=>some (.exc x)
 | none=>none
def rng (lo hi:Int):List D:=(List.range (hi - lo).toNat).map fun (k:Nat)=>D.int (lo+k)
def a5L (i:Int):Bool:=decide (-(2 ^ 62)<=i) && decide (i<2 ^ 62)
def iArg (e:ME) (ρ:MEnv) (k:D->Option RI):Option RI:=match e ρ with
 | some (.ok s)=>k s.val
 | some (.exc x)=>some (.exc x)
 | none=>none
def a08 (e:ME):MI:=fun ρ=>iArg e ρ fun x=>match x with
 | .int hi=>if a5L hi=true then some (.ok (rng 0 hi)) else none
 | _=>none
def a6a (a b:ME):MI:=fun ρ=>iArg a ρ fun x=>iArg b ρ fun y=>match x,y with
 | .int lo,.int hi=>if a5L lo=true/\a5L hi=true then some (.ok (rng lo hi)) else none
 | _,_=>none
def zipD:D->D->Option RI
 | .lst xs,.lst ys=>some (.ok (zipWith (fun u v=>D.tup [u,v]) xs ys))
 | .tup xs,.tup ys=>some (.ok (zipWith (fun u v=>D.tup [u,v]) xs ys))
 | _,_=>none
def iZip (a b:ME):MI:=fun ρ=>iArg a ρ fun x=>iArg b ρ fun y=>zipD x y
def a6J (bd:MB) (cond elt:ME) (ρ:MEnv):List D->List D->Option R
 | [],acc=>if acc.length<=lim then okL acc else none
 | d::ds,acc=>match bd d ρ with
  | none=>none
  | some ρ1=>a1h (cond ρ1) fun c=>asB c fun t=>if t=true then a1h (elt ρ1) fun x=>a6J bd cond elt ρ ds (acc++[x]) else a6J bd cond elt ρ ds acc
def a1q (js:List Nat) (ρ:MEnv):MEnv:=js.foldl (fun ρ j=>ρ.set j none) ρ
def a1p (js:List Nat) (it:MI) (bd:MB) (cond elt:ME):ME:=fun ρ=>match it ρ with
 | some (.ok ds)=>if ds.length<=lim then a6J bd cond elt (a1q js ρ) ds [] else none
 | some (.exc x)=>some (.exc x)
 | none=>none
def b3N (c:ME) (body:MC):Nat->MEnv->Option Out
 | 0,_=>none
 | n+1,ρ=>a5N (c ρ) fun s=>asBO s.val fun t=>if t=true then (match body ρ with
   | some (.next ρ2)=>b3N c body n ρ2
   | some (.cont ρ2)=>b3N c body n ρ2
   | some (.brk ρ2)=>some (.next ρ2)
   | o=>o) else some (.next ρ)
def sWhile (fuel:MEnv->Nat) (c:ME) (body:MC):MC:=fun ρ=>b3N c body (fuel ρ) ρ
def a1N (n:Nat) (ds:List D):MEnv:=ds.map (fun d=>some (.sh d))++replicate (n - ds.length) none
def outR:Option Out->Option R
 | some (.ret s)=>some (.ok s)
 | some (.next _)=>okD .non
 | some (.exc x)=>some (.exc x)
 | _=>none
noncomputable def fnD (np n:Nat) (g:MC):List D->Option R:=fun ds=>if ds.length=np then outR (g (a1N n ds)) else none
def dAdd:D->D->Option R
 | .int i,.int j=>okI (i+j)
 | .str x,.str y=>if x.length+y.length<=lim then okD (.str (x++y)) else none
 | .tup xs,.tup ys=>if xs.length+ys.length<=lim then okD (.tup (xs++ys)) else none
 | .lst xs,.lst ys=>if xs.length+ys.length<=lim then okL (xs++ys) else none
 | _,_=>none
def dSub:D->D->Option R
 | .int i,.int j=>okI (i - j)
 | _,_=>none
def a5O (i:Int):Bool:=decide (-(2 ^ 64)<i) && decide (i<2 ^ 64)
def dMul:D->D->Option R
 | .int i,.int j=>if (a5O i || a5O j)=true then okI (i * j) else none
 | _,_=>none
def dRep (ds:List D):D->Option R
 | .int k=>if -(2 ^ 60)<=k/\k<2 ^ 60/\ds.length * k.toNat<=lim then okL (replicate k.toNat ds).flatten else none
 | _=>none
def eRep (a b:ME):ME:=fun ρ=>match a ρ with
 | some (.ok (.own (.lst ds)))=>a1h (b ρ) (dRep ds)
 | some (.exc x)=>some (.exc x)
 | _=>none
def dMod:D->D->Option R
 | .int i,.int j=>if 0<j then okI (i % j) else none
 | _,_=>none
def a4a:D->D->Option R
 | .int i,.int j=>if 0<j/\j<1073741824 then okI (i / j) else none
 | _,_=>none
def dCmp (p:Int->Int->Bool):D->D->Option R
 | .int i,.int j=>okB (p i j)
 | _,_=>none
def dLt:=dCmp fun i j=>decide (i<j)
def dLe:=dCmp fun i j=>decide (i<=j)
def dGt:=dCmp fun i j=>decide (j<i)
def dGe:=dCmp fun i j=>decide (j<=i)
def eqF:D->D->Option Bool
 | .int i,.int j=>some (decide (i=j))
 | .str x,.str y=>some (decide (x=y))
 | .bl x,.bl y=>some (decide (x=y))
 | .non,.non=>some true
 | .non,.int _=>some false|.int _,.non=>some false|.non,.str _=>some false|.str _,.non=>some false|.non,.bl _=>some false|.bl _,.non=>some false
 | .int _,.str _=>some false|.str _,.int _=>some false|.bl _,.str _=>some false|.str _,.bl _=>some false
 | _,_=>none
def dEq (x y:D):Option R:=match eqF x y with
 | some b=>okB b
 | none=>none
def dNe (x y:D):Option R:=match eqF x y with
 | some b=>okB (!b)
 | none=>none
def dIsN:D->Option R
 | .non=>okB true
 | _=>okB false
def b5B:D->Option R
 | .non=>okB false
 | _=>okB true
def atD {α:Type} (xs:List α) (i:Int):Option α:=(ixD xs.length i).bind fun j=>xs[j]?
def dIx:D->D->Option R
 | .tup ds,.int i=>(atD ds i).bind okD
 | .lst ds,.int i=>(atD ds i).bind okD
 | .str x,.int i=>if x.length<=lim then (atD x.cps.toList i).bind fun c=>okD (.str ⟨#[c]⟩) else none
 | _,_=>none
def dLen:D->Option R
 | .tup ds=>okI ds.length
 | .lst ds=>okI ds.length
 | .str x=>if x.length<=lim then okI x.length else none
 | _=>none
def intsOf:List D->Option (List Int)
 | []=>some []
 | .int i::r=>(intsOf r).map (i::·)
 | _::_=>none
def blsOf:List D->Option (List Bool)
 | []=>some []
 | .bl i::r=>(blsOf r).map (i::·)
 | _::_=>none
def dSum:D->Option R
 | .lst ds=>(intsOf ds).bind fun ns=>okI ns.sum
 | _=>none
def dAll:D->Option R
 | .lst ds=>(blsOf ds).bind fun bs=>okB (bs.all id)
 | _=>none
def dAny:D->Option R
 | .lst ds=>(blsOf ds).bind fun bs=>okB (bs.any id)
 | _=>none
def a3F:D->Option R
 | .lst ds=>okD (.tup ds)
 | .tup ds=>okD (.tup ds)
 | _=>none
def b3y:D->Option R
 | .lst ds=>okL ds
 | .tup ds=>okL ds
 | _=>none
def a6x:D->D->Option R
 | .int lo,.int hi=>if a5L lo=true/\a5L hi=true/\(hi - lo).toNat<=lim then okL (rng lo hi) else none
 | _,_=>none
def kindD:D->String
 | .non => "NoneType" | .bl _ => "bool" | .int _ => "int" | .str _ => "str" | .tup _ => "tuple" | .lst _ => "list" | .obj c _ _=>c|.fn _ _ => "function"
def dIsT (T:String):D->Option R
 | .obj _ _ _=>none
 | .fn _ _=>none
 | d=>okB (kindD d == T || (kindD d == "bool" && T == "int"))
def f1 (F:D->Option R):List D->Option R
 | [d]=>F d
 | _=>none
def f2 (F:D->D->Option R):List D->Option R
 | [d,e]=>F d e
 | _=>none
def a2o:ME:=eC (.bl true)
def dShl:D->D->Option R
 | .int i,.int j=>if 0<=j/\j<=1000000/\i.natAbs<2 ^ 64 then okI (i * 2 ^ j.toNat) else none
 | _,_=>none
def dShr:D->D->Option R
 | .int i,.int j=>if 0<=j then okI (i / 2 ^ j.toNat) else none
 | _,_=>none
def dBand:D->D->Option R
 | .int i,.int j=>if 0<=i/\0<=j then okI ((i.toNat &&& j.toNat:Nat):Int) else none
 | _,_=>none
def dBor:D->D->Option R
 | .int i,.int j=>if 0<=i/\0<=j then okI ((i.toNat ||| j.toNat:Nat):Int) else none
 | _,_=>none
def dPow:D->D->Option R
 | .int i,.int j=>if 0<=j/\j<=1000000/\i.natAbs<2 ^ 64 then okI (i ^ j.toNat) else none
 | _,_=>none
def dNeg:D->Option R
 | .int i=>okI (-i)
 | _=>none
def dAbs:D->Option R
 | .int i=>okI (if i<0 then -i else i)
 | _=>none
def dMax2:D->D->Option R
 | .int i,.int j=>okI (if j > i then j else i)
 | _,_=>none
def dMin2:D->D->Option R
 | .int i,.int j=>okI (if j<i then j else i)
 | _,_=>none
def dInt:D->Option R
 | .int i=>okI i
 | .bl b=>okI (if b then 1 else 0)
 | _=>none
def bitLen (i:Int):Nat:=if i == 0 then 0 else i.natAbs.log2+1
def dBitLen:D->Option R
 | .int i=>okI (bitLen i:Int)
 | _=>none
def truD:D->Option Bool
 | .non=>some false
 | .bl b=>some b
 | .int i=>some (i != 0)
 | .str y=>if y.length<=lim then some ((y.length:Int) != 0) else none
 | .tup ds=>some (!ds.isEmpty)
 | .lst ds=>some (!ds.isEmpty)
 | _=>none
def dTru (d:D):Option R:=(truD d).bind fun b=>okB b
def eTru (a:ME):ME:=eUn dTru a
def eChain (f g:D->D->Option R) (a b c:ME):ME:=fun ρ=>a1h (a ρ) fun x=>a1h (b ρ) fun y=>a1h (f x y) fun z=>asB z fun t=>if t=true then a1h (c ρ) fun w=>g y w else okB false
def enumD:D->Option RI
 | .lst xs=>some (.ok ((List.range xs.length).zipWith (fun (i:Nat) d=>D.tup [.int i,d]) xs))
 | .tup xs=>some (.ok ((List.range xs.length).zipWith (fun (i:Nat) d=>D.tup [.int i,d]) xs))
 | _=>none
def iEnum (a:ME):MI:=fun ρ=>iArg a ρ enumD
def eqD:D->D->Bool
 | .non,.non=>true
 | .bl a,.bl b=>a == b
 | .bl a,.int b=>(if a then 1 else 0) == b
 | .int a,.bl b=>a == (if b then 1 else 0)
 | .int a,.int b=>a == b
 | .str a,.str b=>a == b
 | _,_=>false
def inD (x:D) (ds:List D):Bool:=ds.any fun y=>eqD y x
def dIn (neg:Bool) (x y:D):Option R:=match a85 y with
 | some ds=>if flat x=true/\ds.all flat=true then okB (if neg then !inD x ds else inD x ds) else none
 | none=>none
def sIxD (n d:Nat):Option Int->Nat
 | none=>d
 | some v=>if v<0 then (v+(n:Int)).toNat else min v.toNat n
def cutD (ds:List D) (lo hi:Option Int):List D:=(ds.drop (sIxD ds.length 0 lo)).take (sIxD ds.length ds.length hi - sIxD ds.length 0 lo)
def b0p (x:D) (lo hi:Option Int):Option R:=match x with
 | .tup ds=>if sIxD ds.length 0 lo=0/\sIxD ds.length ds.length hi=ds.length then none else okD (.tup (cutD ds lo hi))
 | .lst ds=>okL (cutD ds lo hi)
 | _=>none
def partD (o:Option ME) (ρ:MEnv) (k:Option Int->Option R):Option R:=match o with
 | none=>k none
 | some e=>a1h (e ρ) fun d=>match d with
  | .int i=>k (some i)
  | _=>none
def a4Z (e:ME) (lo hi:Option ME):ME:=fun ρ=>a1h (e ρ) fun x=>partD lo ρ fun l=>partD hi ρ fun h=>b0p x l h
def insD (k:Int):List Int->List Int
 | []=>[k]
 | x::r=>if k<x then k::x::r else if k=x then x::r else x::insD k r
def a5W (ns:List Int):List Int:=ns.foldr insD []
def fewD (ns:List Int):Bool:=decide (ns.length<=4) && ns.all fun n=>decide (0<=n) && decide (n<32)
def a9c:D->Option R
 | .lst ds=>(intsOf ds).bind fun ns=>if fewD ns=true then okL ((a5W ns).map D.int) else none
 | _=>none
def fldD (f:Str):List Str->List D->Option D
 | n::ns,d::ds=>if f == n then some d else fldD f ns ds
 | _,_=>none
def dFld (cs:List String) (f:Str):D->Option R
 | .obj c ns ds=>if cs.contains c=true then (fldD f ns ds).bind okD else none
 | _=>none
def b3v (m:Str) (tb:String->Option (List D->Option R)) (o:ME) (as:List ME):ME:=fun ρ=>a1h (o ρ) fun x=>match x with
 | .obj c ns ds=>if ns.contains m=true then none else (match tb c with
  | some F=>a1e as ρ fun vs=>F (.obj c ns ds::vs)
  | none=>none)
 | _=>none
def dIsC (tb:String->Option Bool):D->Option R
 | .obj c _ _=>(tb c).bind fun b=>okB b
 | _=>none
abbrev a4U:=O->List D->Option O
abbrev MG:=MEnv->O->Option O
def a6w:List ME->MEnv->Option (List D)
 | [],_=>some []
 | e::es,ρ=>match e ρ with
  | some (.ok s)=>(a6w es ρ).map (s.val::·)
  | _=>none
def putN (f:Str):List Str->List Str
 | []=>[f]
 | n::r=>if n=f then n::r else n::putN f r
def putD (f:Str) (d:D):List Str->List D->List D
 | [],_=>[d]
 | n::ns,x::ds=>if n=f then d::ds else x::putD f d ns ds
 | _::_,[]=>[]
def a6X:MG:=fun _ o=>some o
def a4O (g h:MG):MG:=fun ρ o=>(g ρ o).bind (h ρ)
def a74 (cs:List String) (f:Str) (e:ME):MG:=fun ρ o=>match e ρ,o with
 | some (.ok s),.obj c ns ds=>if cs.contains c=true/\ns.length=ds.length/\ns.length<900 then some (.obj c (putN f ns) (putD f s.val ns ds)) else none
 | _,_=>none
def a5M (F:a4U) (as:List ME):MG:=fun ρ o=>(a6w as ρ).bind (F o)
noncomputable def fnI (np n:Nat) (g:MG):a4U:=fun o ds=>if ds.length+1=np then g (none::a1N (n - 1) ds) o else none
def a45 (c:String) (F:a4U) (as:List ME):ME:=fun ρ=>a1e as ρ fun ds=>match F (.obj c [] []) ds with
 | some o=>some (.ok (.own o))
 | none=>none
def dMulS:D->D->Option R
 | .str x,.int n=>if x.length=1/\(n=1\/n=2) then okD (.str (if n=1 then x else ⟨x.cps++x.cps⟩)) else none
 | _,_=>none
def dNeNil:D->D->Option R
 | .lst ds,.lst []=>okB (!ds.isEmpty)
 | _,_=>none
def eqXs (f:D->D->Option Bool):List D->List D->Option Bool
 | [],[]=>some true
 | x::xs,y::ys=>(f x y).bind fun b=>(eqXs f xs ys).bind fun c=>some (b && c)
 | _,_=>some false
def eqX:Nat->D->D->Option Bool
 | 0,_,_=>none
 | _+1,.int i,.int j=>some (i == j)
 | _+1,.str x,.str y=>some (x == y)
 | n+1,.tup xs,.tup ys=>eqXs (eqX n) xs ys
 | n+1,.lst xs,.lst ys=>if xs.length=ys.length then eqXs (eqX n) xs ys else some false
 | _+1,_,_=>none
def dEqX (n:Nat) (x y:D):Option R:=(eqX n x y).bind fun b=>okB b
def dNeX (n:Nat) (x y:D):Option R:=(eqX n x y).bind fun b=>okB (!b)
def inX (n:Nat) (x:D):List D->Option Bool
 | []=>some false
 | y::ys=>(eqX n y x).bind fun b=>(inX n x ys).bind fun c=>some (b || c)
def dInX (neg:Bool) (n:Nat) (x:D):D->Option R
 | .lst ds=>(inX n x ds).bind fun b=>okB (if neg then !b else b)
 | _=>none
end L3
namespace L3
def sClear (i:Nat):MC:=fun ρ=>ownL i ρ fun _=>some (.next (ρ.set i (some (.own (.lst [])))))
def sRetV (i:Nat):MC:=fun ρ=>match ρ[i]? with
 | some (some s)=>if s.nd=true then some (.ret s) else none
 | _=>none
end L3
namespace L3
mutual
def noFn:D->Bool
 | .fn _ _=>false
 | .tup ds=>a44 ds
 | .lst ds=>a44 ds
 | .obj _ _ ds=>a44 ds
 | .non=>true
 | .bl _=>true
 | .int _=>true
 | .str _=>true
def a44:List D->Bool
 | []=>true
 | d::ds=>noFn d && a44 ds
end
abbrev MCl:=MEnv->Option D
def a7z (ρ:MEnv):List Nat->Option (List D)
 | []=>some []
 | i::r=>match ρ[i]? with
  | some (some (.sh d))=>(a7z ρ r).map (d::·)
  | _=>none
def dems:List Nat->MEnv->MEnv
 | [],ρ=>ρ
 | i::r,ρ=>dems r (dem i ρ)
def cLam (k:Nat) (is:List Nat):MCl:=fun ρ=>(a7z (dems is ρ) is).map (.fn k)
def cSeq (a:MC) (b:MCl):MCl:=fun ρ=>match a ρ with
 | some (.next ρ')=>b ρ'
 | _=>none
def cIf (c:ME) (a b:MCl):MCl:=fun ρ=>match c ρ with
 | some (.ok s)=>(match s.val with
  | .bl t=>if t=true then a ρ else b ρ
  | _=>none)
 | _=>none
noncomputable def fnC (np n:Nat) (g:MCl):List D->Option R:=fun ds=>if ds.length=np then (g (a1N n ds)).map (fun d=>.ok (.sh d)) else none
def fnL (n:Nat) (g:ME):List D->Option R:=fun ds=>g (a1N n ds)
def eCallC (T:Nat->Option (List D->Option R)) (i:Nat) (ga:ME):ME:=fun ρ=>match ρ[i]? with
 | some (some (.sh (.fn k ds)))=>a1h (ga ρ) fun d=>if noFn d && a44 ds then (match T k with
  | some F=>a6Z (F (d::ds))
  | none=>none) else none
 | _=>none
end L3
namespace L3
def dLZ:List D->Option R
 | [.lst xs,.lst ys]=>if xs.length=ys.length then okL (zipWith (fun a b=>.tup [a,b]) xs ys) else none
 | _=>none
end L3
namespace L2
open PySem PySem.Spec PyProof.Rows
section
variable {X:Cx} {tg:Expr}
def iSq (K:Frag) (tl:TE):TI:=fun σ H R=>tl σ H fun x H1=>∃a,x=.ref a/\(((∃xs,SqL K H1 a xs)/\R (Itl K a) H1)\/((∃xs,SqT K H1 a xs)/\R (Itt K a) H1))
theorem pi_seq {l:Expr} {tl:TE} (hl:PE X l tl):PI X tg l (iSq X.K tl):=by
 intro pins s σ H R I h
 refine thn (hl pins s σ H _ I h) fun v s1 ⟨x,H1,I1,r1,a,e,q1⟩=>?_
 subst e
 cases r1
 have f1:∀b∈[s1.heap.objs.size],FpOk X pins H1 b:=fun b hb=>by
  rw [mem_singleton.mp hb]
  exact I1.fpOk (le_refl _) (I1.hok.fresh (le_refl _))
 rcases q1 with ⟨⟨xs,hq⟩,q⟩|⟨⟨xs,hq⟩,q⟩
 ·obtain ⟨its,rv,p,hz⟩:=I1.list hq
  exact wpAny_pyIter_list p.isList ⟨s1.heap.objs.size,[s1.heap.objs.size],_,_,H1,rfl,I1.kept (t':=s1.toks) (fun b o e=>get?_push_of_some _ e),b3S a _,⟨_,get?_push_size _ rfl,rfl,rfl⟩,f1,q⟩
 ·obtain ⟨its,rv,p,hz⟩:=I1.tuple hq
  exact wpAny_pyIter_tuple (show s1.heap.IsTuple a its.toArray from p) ⟨s1.heap.objs.size,[s1.heap.objs.size],_,_,H1,rfl,I1.kept (t':=s1.toks) (fun b o e=>get?_push_of_some _ e),b2v a _,⟨_,get?_push_size _ rfl,rfl,rfl⟩,f1,q⟩
end
def clOf (scope:Scope) (env:PySem.Env):List (Str×Addr):=scope.names.foldl (fun cs x=>if x.2 == .free then (x.1,(env.cells.lookup x.1).getD 0)::cs else cs) []
def a2m (sc psc:Scope) (vars:List Str):Bool:=
 (sc.kind == .function) && sc.names.all fun y=>(sc.names.lookup y.1 == some y.2) && (match y.2 with
  | .local=>vars.contains y.1
  | .cell=>false
  | .free=>psc.names.lookup y.1 == some .cell || psc.names.lookup y.1 == some .free
  | _=>true)
def a48 (N vars:List Str) (js:List Nat):Bool:=(List.range N.length).all fun i=>js.contains i || !(vars.contains (N.getD i (Str.ofString "")))
def a4o (js:List Nat) (σ:St):St:=js.foldl (fun σ j=>σ.set j none) σ
theorem a5V (js:List Nat):∀σ:St,(a4o js σ).length=σ.length:=by
 induction js with
 | nil=>intro σ;rfl
 | cons j js ih=>intro σ;show (a4o js (σ.set j none)).length=_;rw [ih,length_set]
theorem b1u (js:List Nat):∀(σ:St) (i:Nat) (v:V),(a4o js σ)[i]?=some (some v)->i∉js/\σ[i]?=some (some v):=by
 induction js with
 | nil=>intro σ i v h;exact ⟨by simp,h⟩
 | cons j js ih=>
  intro σ i v h
  obtain ⟨h1,h2⟩:=ih (σ.set j none) i v h
  by_cases hj:j=i
  ·subst hj
   by_cases hl:j<σ.length
   ·rw [getElem?_set_self hl] at h2;cases h2
   ·rw [getElem?_eq_none (by rw [length_set];omega)] at h2;cases h2
  ·rw [getElem?_set_ne hj] at h2
   exact ⟨by simp [h1,Ne.symm hj],h2⟩
section
variable {sc psc:Scope} {vars:List Str}
theorem a7a (h:a2m sc psc vars=true):sc.kind=.function:=by
 unfold a2m at h
 exact eq_of_beq (Bool.and_eq_true_iff.mp h).1
theorem a7F (h:a2m sc psc vars=true):∀y∈sc.names,sc.names.lookup y.1=some y.2/\(y.2=.local->y.1∈vars)/\y.2≠.cell/\(y.2=.free->psc.names.lookup y.1=some .cell\/psc.names.lookup y.1=some .free):=by
 intro y hy
 unfold a2m at h
 have h2:=all_eq_true.mp (Bool.and_eq_true_iff.mp h).2 y hy
 obtain ⟨h3,h4⟩:=Bool.and_eq_true_iff.mp h2
 refine ⟨eq_of_beq h3,fun e=>?_,fun e=>?_,fun e=>?_⟩
 ·rw [e] at h4;exact List.contains_iff_mem.mp h4
 ·rw [e] at h4;cases h4
 ·rw [e] at h4
  rcases Bool.or_eq_true_iff.mp h4 with z|z
  ·exact .inl (eq_of_beq z)
  ·exact .inr (eq_of_beq z)
theorem a3k {α β:Type} [BEq α] [LawfulBEq α]:∀{l:List (α×β)} {x:α} {v:β},l.lookup x=some v->(x,v)∈l
 | [],_,_,h=>by cases h
 | (y,w)::l,x,v,h=>by
  rw [lookup_cons] at h
  cases hb:x == y with
  | true=>
   rw [hb] at h
   cases h
   rw [eq_of_beq hb]
   exact mem_cons_self
  | false=>
   rw [hb] at h
   exact mem_cons_of_mem _ (a3k h)
end
theorem clOf_in (scope:Scope) (env:PySem.Env):∀(l:List (Str×NameKind)) (acc:List (Str×Addr)),(∀p∈acc,env.cells.lookup p.1=some p.2)->(∀y∈l,y.2=.free->∃c,env.cells.lookup y.1=some c)->
  ∀p∈l.foldl (fun cs x=>if x.2 == .free then (x.1,(env.cells.lookup x.1).getD 0)::cs else cs) acc,env.cells.lookup p.1=some p.2:=by
 intro l
 induction l with
 | nil=>intro acc h _;exact h
 | cons y l ih=>
  intro acc h hf
  rw [foldl_cons]
  refine ih _ ?_ fun z hz=>hf z (mem_cons_of_mem _ hz)
  split
  ·rename_i hb
   intro p hp
   rcases mem_cons.mp hp with e|hp
   ·obtain ⟨c,hc⟩:=hf y mem_cons_self (eq_of_beq hb)
    rw [e,hc]
    rfl
   ·exact h p hp
  ·exact h
theorem clOf_has (scope:Scope) (env:PySem.Env):∀(l:List (Str×NameKind)) (acc:List (Str×Addr)) (x:Str),((x,NameKind.free)∈l\/∃c,(x,c)∈acc)->
  ∃c,(x,c)∈l.foldl (fun cs x=>if x.2 == .free then (x.1,(env.cells.lookup x.1).getD 0)::cs else cs) acc:=by
 intro l
 induction l with
 | nil=>
  intro acc x h
  rcases h with h|h
  ·cases h
  ·exact h
 | cons y l ih=>
  intro acc x h
  rw [foldl_cons]
  refine ih _ x ?_
  rcases h with h|⟨c,h⟩
  ·rcases mem_cons.mp h with e|h
   ·subst e
    exact .inr ⟨_,by rw [if_pos (by rfl)];exact mem_cons_self⟩
   ·exact .inl h
  ·refine .inr ⟨c,?_⟩
   split
   ·exact mem_cons_of_mem _ h
   ·exact h
theorem a6y {scope:Scope} {env:PySem.Env} (hf:∀y∈scope.names,y.2=.free->∃c,env.cells.lookup y.1=some c):closureFor scope env=pure (clOf scope env):=by
 have go:∀(l:List (Str×NameKind)) (acc:List (Str×Addr)),(∀y∈l,y.2=.free->∃c,env.cells.lookup y.1=some c)->
   (forIn l acc fun x cs=>do
    if x.2 == .free then pure (ForInStep.yield ((x.1,←cellOf env x.1)::cs)) else pure (ForInStep.yield cs):Sem (List (Str×Addr)))=
   pure (l.foldl (fun cs x=>if x.2 == .free then (x.1,(env.cells.lookup x.1).getD 0)::cs else cs) acc):=by
  intro l
  induction l with
  | nil=>intro acc _;rfl
  | cons y l ih=>
   intro acc h
   rw [forIn_cons,foldl_cons]
   cases hb:y.2 == NameKind.free with
   | true=>
    obtain ⟨c,hc⟩:=h y mem_cons_self (eq_of_beq hb)
    have e1:cellOf env y.1=pure c:=by unfold cellOf;rw [hc]
    simp only [if_true,e1,pure_bind,hc,Option.getD_some]
    exact ih _ fun z hz=>h z (mem_cons_of_mem _ hz)
   | false=>
    simp only [false_eq_true,if_false,pure_bind]
    exact ih _ fun z hz=>h z (mem_cons_of_mem _ hz)
 have:=go scope.names [] hf
 unfold closureFor
 simpa [clOf] using this
def a2i (X:Cx) (scope:Scope) (fp:List Addr) (s:Shared) (H:Hp) (C:Addr):Cx:=
 { X with s₀:=s,H₀:=H,env:=compEnvC scope (clOf scope X.env) C X.env,outer:=X.stack,ex:=fp,fn:=fun _=>false,pn:=[],xe:=fun _ _=>False }
theorem a7p (f:Str->NameKind->NameKind):∀(l:List (Str×NameKind)) (x:Str),(l.map fun y=>(y.1,f y.1 y.2)).lookup x=(l.lookup x).map (f x)
 | [],_=>rfl
 | (n,k)::l,x=>by
  rw [map_cons,lookup_cons,lookup_cons]
  cases hb:x == n with
  | true=>rw [eq_of_beq hb];rfl
  | false=>exact a7p f l x
theorem a5Q (scope:Scope) (env:PySem.Env) (x:Str):(relabel scope env).names.lookup x=(scope.names.lookup x).map fun k=>if (k == NameKind.free && env.scope.kind == .function && env.kindOf x == some .cell)=true then NameKind.cell else k:=by
 rw [←a7p (fun n k=>if (k == NameKind.free && env.scope.kind == .function && env.kindOf n == some .cell)=true then NameKind.cell else k)]
 unfold relabel
 dsimp only
 congr 1
 refine List.map_congr_left fun y _=>?_
 obtain ⟨n,k⟩:=y
 dsimp only
 split <;> rfl
theorem a5a {scope psc:Scope} {env:PySem.Env} {vars:List Str} {x:Str} (hc:a2m scope psc vars=true) (h:(relabel scope env).names.lookup x=some .cell\/(relabel scope env).names.lookup x=some .free):scope.names.lookup x=some .free:=by
 rw [a5Q] at h
 cases hl:scope.names.lookup x with
 | none=>rw [hl] at h;simp at h
 | some k=>
  obtain ⟨_,h2,h3,_⟩:=a7F hc _ (a3k hl)
  rw [hl] at h
  cases k with
  | free=>rfl
  | cell=>exact absurd rfl h3
  | _=>simp at h
theorem b0R {scope psc:Scope} {env:PySem.Env} {vars:List Str} {x:Str} (hc:a2m scope psc vars=true) (h:Vis (relabel scope env) x):
  (x∈vars)\/(scope.names.lookup x=some .free/\((relabel scope env).names.lookup x=some .cell\/(relabel scope env).names.lookup x=some .free)):=by
 rcases h with h|h|h
 ·rw [a5Q] at h
  cases hl:scope.names.lookup x with
  | none=>rw [hl] at h;simp at h
  | some k=>
   obtain ⟨_,h2,h3,_⟩:=a7F hc _ (a3k hl)
   rw [hl] at h
   cases k with
   | «local»=>exact .inl (h2 rfl)
   | cell=>exact absurd rfl h3
   | free=>
    simp only [Option.map_some] at h
    split at h <;> simp at h
   | _=>simp at h
 ·exact .inr ⟨a5a hc (.inl h),.inl h⟩
 ·exact .inr ⟨a5a hc (.inr h),.inr h⟩
theorem b1y {scope psc:Scope} {env:PySem.Env} {vars:List Str} (hc:a2m scope psc vars=true) (hf:∀y∈scope.names,y.2=.free->∃c,env.cells.lookup y.1=some c):
  (∀x c,(clOf scope env).lookup x=some c->env.cells.lookup x=some c)/\∀x,scope.names.lookup x=some .free->∃c,(clOf scope env).lookup x=some c/\env.cells.lookup x=some c:=by
 have h1:∀x c,(clOf scope env).lookup x=some c->env.cells.lookup x=some c:=fun x c e=>clOf_in scope env scope.names [] (fun _ z=>nomatch z) hf (x,c) (a3k e)
 refine ⟨h1,fun x e=>?_⟩
 obtain ⟨c,hm⟩:=clOf_has scope env scope.names [] x (.inl (a3k e))
 cases q:(clOf scope env).lookup x with
 | some d=>exact ⟨d,rfl,h1 x d q⟩
 | none=>
  have:=List.lookup_eq_none_iff.mp q _ hm
  simp at this
section
variable {X:Cx} {pins:List (Addr×Obj)} {σ:St} {H:Hp} {s:Shared} {scope:Scope} {vars:List Str} {js:List Nat} {fp:List Addr} {C:Addr} {h₁:Heap} {tk:Nat}
theorem a7E (I:Inv X pins σ H s) (hc:a2m scope X.env.scope vars=true):∀y∈scope.names,y.2=.free->∃c,X.env.cells.lookup y.1=some c:=fun y hy e=>by
 obtain ⟨_,_,_,h⟩:=a7F hc y hy
 exact I.ok.has y.1 (h e)
theorem inv_comp (I:Inv X pins σ H s) (hc:a2m scope X.env.scope vars=true) (hj:a48 X.N vars js=true) (hC:C=s.heap.objs.size) (hfp:∀b∈fp,FpOk X pins H b) (hfo:∀b∈fp,b<s.heap.objs.size)
  {m:Str->Option Value} (hns:h₁.Ns C m) (keep:∀b o,s.heap.get? b=some o->h₁.get? b=some o):
  Inv (a2i X scope fp s H C) [] (a4o js σ) H { s with heap:=h₁,toks:=tk }:=by
 have hf:=a7E I hc
 obtain ⟨cl1,cl2⟩:=b1y hc hf
 have ok:(a2i X scope fp s H C).Ok:=by
  refine ⟨I.ok.mod,?_,I.ok.glob,I.ok.blt,le_of_eq hC.symm,fun x y c h1 h2=>I.ok.inj x y c (cl1 x c h1) (cl1 y c h2),fun x hx=>?_,(fun x c z=>nomatch z),I.ok.hd,I.ok.frames,Or.inl rfl,fun b hb=>?_,I.bs,le_trans I.ok.bsz I.sz,fun b o e hb=>?_,fun b hb z=>?_,I.stack,I.stkFree⟩
  ·show scope.kind=.function
   exact a7a hc
  ·obtain ⟨c,z,_⟩:=cl2 x (a5a hc hx)
   exact ⟨c,z⟩
  ·obtain ⟨_,_,_,_,f4,_⟩:=hfp b hb
   refine ⟨fun z=>?_,fun x c e=>f4 x c (cl1 x c e)⟩
   have h1:=hfo b hb
   have h2:b=C:=z
   rw [h2,hC] at h1
   exact lt_irrefl _ h1
  ·obtain ⟨_,_,_,f3,_⟩:=hfp b hb
   rcases f3 with z|z
   ·exact I.ok.noex b o e z
   ·exact absurd (lt_of_lt_of_le (lt_size (I.ok.bs b o e).1) z) (lt_irrefl _)
  ·obtain ⟨_,f1,f2,_⟩:=hfp b hb
   rcases mem_cons.mp (I.stkSub b z) with e|e
   ·exact f1 e
   ·exact f2 e
 refine ⟨ok,rfl,I.bare,Un.kept keep,⟨m,hns,fun i x v e1 e2 e3=>?_⟩,fun x c e=>?_,?_,fun x c e=>I.freeC x c (cl1 x c e),(fun p hp=>nomatch hp),I.hok.kept keep,?_⟩
 ·obtain ⟨nj,e2⟩:=b1u js σ i v e2
  rcases b0R hc e3 with hm|⟨ef,hk⟩
  ·exfalso
   have hi:i<X.N.length:=(List.getElem?_eq_some_iff.mp e1).1
   have hq:=all_eq_true.mp hj i (mem_range.mpr hi)
   rcases Bool.or_eq_true_iff.mp hq with z|z
   ·exact nj (List.contains_iff_mem.mp z)
   ·rw [getD_eq_getElem?_getD,show X.N[i]?=some x from e1] at z
    have hm':vars.contains x=true:=List.contains_iff_mem.mpr hm
    rw [Option.getD_some,hm'] at z
    cases z
  ·obtain ⟨c,z1,z2⟩:=cl2 x ef
   obtain ⟨m0,_,hl⟩:=I.loc
   obtain ⟨_,_,_,hp⟩:=a7F hc _ (a3k ef)
   have hv:Vis X.env.scope x:=(hp rfl).elim (fun z=>.inr (.inl z)) fun z=>.inr (.inr z)
   obtain ⟨u,r,l⟩:=hl i x v e1 e2 hv
   refine ⟨u,r,.inr ⟨hk,c,z1,?_⟩⟩
   rcases l with ⟨k,_⟩|⟨_,c',e,q⟩
   ·have k':X.env.scope.names.lookup x=some .local:=k
    rcases hp rfl with z|z
    ·have z':X.env.scope.names.lookup x=some .cell:=z
     rw [k'] at z';cases z'
    ·have z':X.env.scope.names.lookup x=some .free:=z
     rw [k'] at z';cases z'
   ·rw [z2] at e
    cases e
    obtain ⟨o,ho,hd⟩:=q
    exact ⟨o,keep _ o ho,hd⟩
 ·obtain ⟨v,o,ho,hd⟩:=I.cell x c (cl1 x c e)
  exact ⟨v,o,keep _ o ho,hd⟩
 ·exact I.hok.fresh (le_of_eq hC.symm)
 ·rw [a5V]
  exact I.len
end
abbrev Fl:Value->Shared->Prop:=fun _ _=>False
theorem fl {α:Type} {M:Model} {A:Around} {t:Sem α} {Q Q':α->Shared->Prop} {E:Value->Shared->Prop} {s:Shared} (h:wpAny M A t Q Fl s) (k:∀a s,Q a s->Q' a s):wpAny M A t Q' E s:=wpAny_mono h k fun _ _ z=>z.elim
def b5E (ifs:List Expr) (env:PySem.Env):Sem Bool:=forIn ifs true fun c r=>if r=true then do let ok ←isTrue c env (eval c env);pure (ForInStep.yield ok) else pure (ForInStep.yield r)
theorem b5D {prog:Program} {w:World} {A:Around} {R:Result->Shared->Prop} {s:Shared} {elt target iter:Expr} {ifs:List Expr} {scope:Scope} {pos:Pos} {it acc:Value} {env:PySem.Env} (Iv:Nat->Shared->Prop)
  (turn:∀n s,Iv n s->wpAny (model prog w) A (pyNext it) (fun r s₁=>match r with
   | none=>R (.ok .next) s₁
   | some v=>wpAny (model prog w) A (letOwnedTupleGo target it v) (fun _ s₂=>wpAny (model prog w) A (assign target env v) (fun _ s₃=>wpAny (model prog w) A (b5E ifs env) (fun ok s₄=>
     if ok=true then wpAny (model prog w) A (eval elt env) (fun x s₅=>wpAny (model prog w) A (call (.builtin "list.append") [acc,x]) (fun _ s₆=>∃m,m<n/\Iv m s₆) Fl s₅) Fl s₄
     else ∃m,m<n/\Iv m s₄) Fl s₃) Fl s₂) Fl s₁) Fl s)
  (n:Nat) (h:Iv n s):codeAny (model prog w) A (.compLoop (.ListComp elt [⟨target,iter,ifs,0⟩] scope pos) 0 it acc env) R s:=by
 refine codeAny_loop rfl Iv (fun n s hI=>?_) n h
 show wpAny _ A ((compTurn (.ListComp elt [⟨target,iter,ifs,0⟩] scope pos) 0 it acc env).onRaise _) _ _ s
 refine wpAny_noted ?_
 rw [compTurn_list]
 refine wpAny_bind (wpAny_standAt (wpAny_bind (fl (turn n s hI) fun r s₁ h₁=>?_)))
 cases r with
 | none=>exact wpAny_pure h₁
 | some v=>
  refine wpAny_bind (fl h₁ fun _ s₂ h₂=>wpAny_bind (fl h₂ fun _ s₃ h₃=>wpAny_bind (fl h₃ fun ok s₄ h₄=>?_)))
  cases ok with
  | false=>exact wpAny_pure ⟨rfl,h₄⟩
  | true=>exact wpAny_bind (wpAny_bind (fl h₄ fun x s₅ h₅=>wpAny_bind (fl h₅ fun _ s₆ h₆=>wpAny_pure (wpAny_pure ⟨rfl,h₆⟩))))
def PIf (X:Cx) (ifs:List Expr) (t:TT):Prop:=∀(pins:List (Addr×Obj)) (s:Shared) (σ:St) (H:Hp) (Q:Bool->Hp->Prop),Inv X pins σ H s->t σ H Q->wpAny (model X.prog X.w) X.A (b5E ifs X.env) (TP X pins σ Q) X.xe s
def tTrue:TT:=fun _ H Q=>Q true H
theorem b4u {X:Cx}:PIf X [] tTrue:=fun pins s σ H Q I h=>wpAny_tests_nil ⟨H,I,h⟩
theorem b4t {X:Cx} {c:Expr} {t:TT} (h:PT X c t):PIf X [c] t:=fun pins s σ H Q I q=>wpAny_tests_one (h pins s σ H Q I q)
def CompW (J:It) (g:TG) (tt:TT) (te:TE) (a:Addr) (Q:VK) (W:Nat->Nat->St->List V->Hp->Prop):Prop:=∀i m σ ys H,W i m σ ys H->H a=some (.lst ys)/\
 ((J.stop i H/\Q (.ref a) H)\/(J.go i H/\∀x H1,J.yld i H x H1->g x σ H1 fun σ2 H2=>tt σ2 H2 fun b H3=>
  if b=true then te σ2 H3 fun y H4=>H4 a=some (.lst ys)/\ys.length<sizeLine/\∃m',m'<m/\W (i+1) m' σ2 (ys++[y]) (upd H4 a (.lst (ys++[y]))) else ∃m',m'<m/\W (i+1) m' σ2 ys H3))
def tComp (js:List Nat) (wi:TI) (g:TG) (tt:TT) (te:TE):TE:=fun σ H Q=>wi σ H fun J H1=>∀a,H1 a=none->∃W,(∃m,W 0 m (a4o js σ) [] (upd H1 a (.lst [])))/\CompW J g tt te a Q W
section
variable {X:Cx} {scope:Scope} {vars:List Str} {js:List Nat} {elt tg iter:Expr} {ifs:List Expr} {pos:Pos} {wi:TI} {g:TG} {tt:TT} {te:TE}
theorem b0r {pins:List (Addr×Obj)} {s:Shared} {σ:St} {H:Hp} {it:Addr} {fp:List Addr} {tn:Nat->Heap->Prop} {J:It} {Q:VK} {E:Value->Shared->Prop} {RR:Value->Addr->Result->Shared->Prop} (hc:a2m scope X.env.scope vars=true) (hj:a48 X.N vars js=true) (hcalm:X.calm=true)
  (hg:∀fp s H C,PG (a2i X scope fp s H C) tg g) (ht:∀fp s H C,PIf (a2i X scope fp s H C) ifs tt) (he:∀fp s H C,PE (a2i X scope fp s H C) elt te)
  (I:Inv X pins σ H s) (T:Turn X.prog X.w X.K tg J fp it tn) (st:tn 0 s.heap) (hfp:∀b∈fp,FpOk X pins H b) (q:∀a,H a=none->∃W,(∃m,W 0 m (a4o js σ) [] (upd H a (.lst [])))/\CompW J g tt te a Q W)
  (fin:∀a C H' s' m,Inv X pins σ H' s'->s'.heap.Ns C m->H' C=none->C≠X.env.locals->X.s₀.heap.objs.size<=C->(∀x c,X.env.cells.lookup x=some c->c≠C)->(∀p∈X.pn++pins,p.1≠C)->Q (.ref a) H'->RR (.ref a) C (.ok .next) s'):
  wpAny (model X.prog X.w) X.A (newList []) (fun acc s₃=>wpAny (model X.prog X.w) X.A (newFunctionEnv scope X.env.globals (clOf scope X.env) [] X.env.qual none .none (some X.env)) (fun cenv s₄=>
   codeAny (model X.prog X.w) X.A (.compStart (.ListComp elt [⟨tg,iter,ifs,0⟩] scope pos) 0 (.ref it) acc { cenv with scope:=relabel scope X.env }) (RR acc cenv.locals) s₄) E s₃) E s:=by
 have nocell:∀y∈scope.names,y.2≠.cell:=fun y hy=>(a7F hc y hy).2.2.1
 refine wpAny_newObj_type (wpAny_newFunctionEnv nocell (by intro y hy;simp at hy) (fun h₁ hns hsb=>?_) (a7a hc))
 dsimp only at hns hsb ⊢
 generalize hA:s.heap.objs.size=a at *
 have fa:H a=none:=by rw [←hA];exact I.fresh
 obtain ⟨W,⟨m0,w0⟩,hW⟩:=q a fa
 have I3:Inv X pins σ (upd H a (.lst [])) { s with heap:=s.heap.push { cls:=.type "list",data:=.seq ([]:List Value).toArray } }:=by
  rw [←hA]
  exact I.lnew (t':=s.toks) (ys:=[]) (its:=[]) .nil (zero_le _)
 generalize hB:s.heap.push { cls:=.type "list",dict:=none,data:=.seq ([]:List Value).toArray }=hp at *
 have szp:hp.objs.size=a+1:=by rw [←hB,size_push,hA]
 have keep:∀b o,hp.get? b=some o->h₁.get? b=some o:=fun b o e=>(hsb.2 b (ne_of_lt (lt_size e))).trans (get?_push_of_some _ e)
 have up:∀b o,s.heap.get? b=some o->hp.get? b=some o:=fun b o e=>by rw [←hB];exact get?_push_of_some _ e
 have lo:∀b∈fp,b<a:=fun b hb=>by
  obtain ⟨o,e,_⟩:=T.obj 0 _ st b hb
  rw [←hA]
  exact lt_size e
 have hfp3:∀b∈fp,FpOk X pins (upd H a (.lst [])) b:=fun b hb=>⟨by rw [a0S (ne_of_lt (lo b hb))];exact (hfp b hb).1,(hfp b hb).2⟩
 have I4:=inv_comp (tk:=s.toks+([]:List (Str×Value)).length) I3 hc hj rfl hfp3 (fun b hb=>by show b<hp.objs.size;rw [szp];exact lt_succ_of_lt (lo b hb)) hns keep
 generalize hX:a2i X scope fp { s with heap:=hp } (upd H a (.lst [])) hp.objs.size=X' at I4
 have eP:X'.prog=X.prog:=by rw [←hX];rfl
 have eW:X'.w=X.w:=by rw [←hX];rfl
 have eK:X'.K=X.K:=by rw [←hX];rfl
 have eA:X'.A=X.A:=by rw [←hX];rfl
 have eC:X'.calm=true:=by rw [←hX];exact hcalm
 have eL:X'.env.locals=hp.objs.size:=by rw [←hX];rfl
 have eE:X'.env=compEnvC scope (clOf scope X.env) hp.objs.size X.env:=by rw [←hX];rfl
 have eX:X'.ex=fp:=by rw [←hX];rfl
 have exe:X'.xe=Fl:=by rw [←hX];rfl
 have epn:X'.pn=[]:=by rw [←hX];rfl
 have hg':PG X' tg g:=by rw [←hX];exact hg _ _ _ _
 have ht':PIf X' ifs tt:=by rw [←hX];exact ht _ _ _ _
 have he':PE X' elt te:=by rw [←hX];exact he _ _ _ _
 have stat:∀{H':Hp},(∀b∈fp,H' b=none)->∀b∈fp,FpOk X' [] H' b:=fun hn b hb=>by
  have hb':b∈X'.ex:=by rw [eX];exact hb
  exact ⟨hn b hb,(I4.ok.exf b hb').1,I4.ok.exfs b hb',.inl hb',(I4.ok.exf b hb').2,fun p hp=>by rw [epn] at hp;cases hp⟩
 have back:∀{σ':St} {H':Hp} {s':Shared},Inv X' [] σ' H' s'->Q (.ref a) H'->RR (.ref a) hp.objs.size (.ok .next) s':=fun {σ' H' s'} J qf=>by
  obtain ⟨m,hn,_⟩:=J.loc
  rw [eL] at hn
  have hfree:=J.free
  rw [eL] at hfree
  have jos:=J.os
  have jbase:=J.base
  have jhok:=J.hok
  rw [←hX] at jos jbase jhok
  refine fin a _ H' s' m (I3.call' (ch:=fp) jos jbase jhok J.bare fun b hb=>⟨(hfp b hb).2.2.2.1,(hfp b hb).2.1,(hfp b hb).2.2.2.2.1,(hfp b hb).2.2.2.2.2⟩) hn hfree (ne_of_gt I3.lt) I3.sz (fun x c e z=>?_) (fun p hp' z=>?_) qf
  ·obtain ⟨v,o,ho,_⟩:=I3.cell x c e
   have:=lt_size ho
   rw [z] at this
   exact lt_irrefl _ this
  ·have:=lt_size (I3.pin p hp').1
   rw [z] at this
   exact lt_irrefl _ this
 have st1:tn 0 h₁:=T.keep 0 _ _ st fun b hb o e=>keep b o (up b o e)
 have loop:codeAny (model X.prog X.w) X.A (.compLoop (.ListComp elt [⟨tg,iter,ifs,0⟩] scope pos) 0 (.ref it) (.ref a) X'.env) (RR (.ref a) hp.objs.size) { s with heap:=h₁,toks:=s.toks+([]:List (Str×Value)).length }:=by
  refine b5D (fun n s'=>∃i σ' ys H',Inv X' [] σ' H' s'/\tn i s'.heap/\(∀b∈fp,H' b=none)/\W i n σ' ys H') ?_ m0 ⟨0,_,[],_,I4,st1,fun b hb=>(hfp3 b hb).1,w0⟩
  rintro n s3 ⟨i,σ3,ys,H3,J3,st3,fr3,w3⟩
  obtain ⟨ha,hw⟩:=hW i n σ3 ys H3 w3
  rcases hw with ⟨stop,qn⟩|⟨go,step⟩
  ·have z:=T.done X' eP eW eK eC i [] s3 σ3 H3 Fl J3 (stat fr3) st3 stop
   rw [eA] at z
   refine thn z fun r s4 ⟨hr,J4⟩=>?_
   subst hr
   exact back J4 qn
  ·have z:=T.item X' eP eW eK eC i [] s3 σ3 H3 Fl J3 (stat fr3) st3 go
   rw [eA] at z
   refine thn z fun r s4 ⟨u,hr,h4⟩=>?_
   subst hr
   refine thn h4 fun _ s5 ⟨x,H5,J5,r5,y5,st5,fr5⟩=>?_
   have J5':=J5.pinned (stat fr5) (T.obj _ _ st5)
   have z5:=hg' _ s5 σ3 H5 x u _ J5' r5 (step x H5 y5)
   rw [eP,eW,eA,exe] at z5
   refine thn z5 fun _ s6 ⟨σ6,H6,J6,q6⟩=>?_
   have z6:=ht' _ s6 σ6 H6 _ J6 q6
   rw [eP,eW,eA,exe] at z6
   refine thn z6 fun ok s7 ⟨H7,J7,q7⟩=>?_
   have again:∀{σ8:St} {H8:Hp} {s8:Shared} {ys8:List V} {m':Nat},Inv X' ([]++a9H fp s5.heap) σ8 H8 s8->m'<n->W (i+1) m' σ8 ys8 H8->∃m,m<n/\∃i σ' ys H',Inv X' [] σ' H' s8/\tn i s8.heap/\(∀b∈fp,H' b=none)/\W i m σ' ys H':=fun {σ8 H8 s8 ys8 m'} J8 hm w8=>by
    refine ⟨m',hm,i+1,σ8,ys8,H8,J8.unpinned,T.keep _ _ _ st5 fun b hb o e=>(J8.pin (b,o) (mem_append_right _ (mem_append_right _ (a5D hb e)))).1,fun b hb=>?_,w8⟩
    obtain ⟨o,e,d⟩:=T.obj _ _ st5 b hb
    exact (J8.pin (b,o) (mem_append_right _ (mem_append_right _ (a5D hb e)))).2.1
   cases ok with
   | false=>
    rw [if_neg Bool.false_ne_true] at q7 ⊢
    obtain ⟨m',hm,w7⟩:=q7
    exact again J7 hm w7
   | true=>
    rw [if_pos rfl] at q7 ⊢
    have z7:=he' _ s7 σ6 H7 _ J7 q7
    rw [eP,eW,eA,exe] at z7
    refine thn z7 fun v s8 ⟨y,H8,J8,r8,h8,hl8,m',hm,w8⟩=>?_
    have z8:=a97 _ s8 σ6 H8 (.ref a) [y] (.ref a) [v] (fun _ H9=>H9=upd H8 a (.lst (ys++[y]))) J8 rfl (.cons r8 .nil) ⟨a,ys,y,rfl,rfl,h8,hl8,rfl⟩
    rw [eP,eW,eA,exe] at z8
    refine thn z8 fun _ s9 ⟨_,H9,J9,_,q9⟩=>?_
    subst q9
    exact again J9 hm w8
 rw [eE] at loop
 exact codeAny_compStart_list loop (T.self _ 0 _ _ _ st1 loop)
theorem b4x (hc:a2m scope X.env.scope vars=true) (hj:a48 X.N vars js=true) (hcalm:X.calm=true) (hi:PI X tg iter wi)
  (hg:∀fp s H C,PG (a2i X scope fp s H C) tg g) (ht:∀fp s H C,PIf (a2i X scope fp s H C) ifs tt) (he:∀fp s H C,PE (a2i X scope fp s H C) elt te) (hs:∀x,foldedSetIterable iter X.env x=pure x:=by intro _;rfl):
  PE X (.ListComp elt [⟨tg,iter,ifs,0⟩] scope pos) (tComp js wi g tt te):=by
 intro pins s σ H Q I h
 rw [eval_ListComp]
 refine wpAny_comprehension_free (use:=none) rfl hs (a6y (a7E I hc)) (a7a hc) (fun y hy e=>by rw [(a7F hc y hy).1,e]) (thn (hi pins s σ H _ I h) fun v s1 h1=>thn h1 fun itv s2 h2=>?_)
 obtain ⟨it,fp,tn,J,H2,e,I2,T,st2,f2,q⟩:=h2
 subst e
 refine b0r (RR:=fun acc C=>compPost (model X.prog X.w) X.A X.xe none (EP X pins σ Q) acc C) hc hj hcalm hg ht he I2 T st2 f2 q ?_
 intro a C H' s' m J' hn hC hL hS hcell hpin q'
 exact ⟨m,hn,fun h' sb=>⟨.ref a,H',J'.turned (t':=s'.toks) (fun b o hb e=>(sb.2 b hb).trans e) hC hL (.inr hS) hcell hpin,rfl,q'⟩⟩
theorem a8h {i:Nat} {x:Str} {pos' spos:Pos} (hN:X.N.Nodup) (hi':X.N[i]?=some x) (hx:Loc X.env.scope x) (hc:a2m scope X.env.scope vars=true) (hj:a48 X.N vars js=true) (hcalm:X.calm=true) (hi:PI X tg iter wi)
  (hg:∀fp s H C,PG (a2i X scope fp s H C) tg g) (ht:∀fp s H C,PIf (a2i X scope fp s H C) ifs tt) (he:∀fp s H C,PE (a2i X scope fp s H C) elt te)
  (hsw:swapsWith (.ListComp elt [⟨tg,iter,ifs,0⟩] scope pos) (some (.Name x pos')) spos.line X.env=pure true:=by rfl) (hs:∀x,foldedSetIterable iter X.env x=pure x:=by intro _;rfl)
  (hf:X.fn x=true\/X.env.scope.names.lookup x=some .local:=by first|exact .inl rfl|exact .inr rfl|assumption):
  PS X (.Assign [.Name x pos'] (.ListComp elt [⟨tg,iter,ifs,0⟩] scope pos) spos) (tAsg (tComp js wi g tt te) (b5p i)):=by
 intro pins s σ H D I h
 rw [exec_Assign_Name_used _ _ _ _ hsw]
 refine wpAny_bind (wpAny_standAt (wpAny_bind ?_))
 show wpAny _ X.A (do let _ ←comprehension (.ListComp elt [⟨tg,iter,ifs,0⟩] scope pos) scope X.env _ (newList []) false (eval iter X.env) (some (assign (.Name x pos') X.env))) _ _ s
 refine wpAny_bind (wpAny_mono (wpAny_comprehension_free (use:=some (assign (.Name x pos') X.env)) (Q:=fun _ s'=>SP X pins D .next s') rfl hs (a6y (a7E I hc)) (a7a hc) (fun y hy e=>by rw [(a7F hc y hy).1,e])
  (thn (hi pins s σ H _ I h) fun v s1 h1=>thn h1 fun itv s2 h2=>?_)) (fun _ s' hq=>wpAny_pure (wpAny_pure hq)) fun _ _ e=>e)
 obtain ⟨it,fp,tn,J,H2,e,I2,T,st2,f2,q⟩:=h2
 subst e
 refine b0r (RR:=fun acc C=>compPost (model X.prog X.w) X.A X.xe (some (assign (.Name x pos') X.env)) (fun _ s'=>SP X pins D .next s') acc C) hc hj hcalm hg ht he I2 T st2 f2 q ?_
 intro a C H' s' m J' hn hC hL hS hcell hpin q'
 refine wpAny_assign_Name (a9t J' hN hi' hx (v:=.ref a) rfl (fun s'' J2 ⟨b,sb,hb⟩=>?_) hf)
 have hCb:C≠b:=by
  rcases hb with z|z
  ·rw [z];exact hL
  ·exact (hcell x b z).symm
 exact ⟨m,hn.sameBut sb hCb,fun h' sb'=>⟨_,H',J2.turned (t':=s''.toks) (fun b o hb e=>(sb'.2 b hb).trans e) hC hL (.inr hS) hcell hpin,q'⟩⟩
end
section
variable {X:Cx} {pins:List (Addr×Obj)} {σ:St} {H:Hp} {s:Shared} {l:Addr} {xs:List V}
def rCatR (K:Frag):R2:=fun x y H Q=>∃l b xs zs,x=.ref l/\y=.ref b/\SqL K H l xs/\SqL K H b zs/\xs.length+zs.length<=sizeLine/\∀p,H p=none->Q (.ref p) (upd H p (.lst (xs++zs)))
theorem op_catR:OpR X (binaryOp .Add) (rCatR X.K):=fun pins s σ H x y v u Q I rx ry ⟨l,b,xs,zs,ex,ey,hH,hB,hz,q⟩=>by
 subst ex ey
 cases rx
 cases ry
 obtain ⟨i1,r1,p1,_⟩:=I.list hH
 obtain ⟨i2,r2,p2,_⟩:=I.list hB
 obtain ⟨⟨c1,d1,t1,s1⟩,o1,k1,n1,g1⟩:=p1.isList
 obtain ⟨⟨c2,d2,t2,s2⟩,o2,k2,n2,g2⟩:=p2.isList
 simp only at k1 g1 k2 g2
 subst k1 g1 k2 g2
 have l1:=r1.length
 have l2:=r2.length
 have ea:i1.toArray++i2.toArray=(i1++i2).toArray:=by simp
 refine concat_meets ⟨_,o1,rfl⟩ ⟨_,o2,rfl⟩ noFill_list_add seq_list_add PySem.F.slot_list_add PySem.F.entry_list_add (PySem.F.args_list_add_2 _ _) (list_addW l b _ _ n1 n2 d1 d2 s1 s2 (by rw [size_toArray,size_toArray,←l1,←l2];exact hz)) ⟨o1,o2,?_⟩
 rw [ea]
 exact ⟨.ref _,_,I.lnew (t':=s.toks) (r1.append r2) (by rw [length_append];exact hz),rfl,q _ I.fresh⟩
theorem op_catT0:OpR X (binaryOp .Add) (fun x y H Q=>∃a b ys,x=.ref a/\y=.ref b/\SqT X.K H a []/\SqT X.K H b ys/\Q (.ref b) H):=fun pins s σ H x y v u Q I rx ry ⟨a,b,ys,ex,ey,ha,hb,q⟩=>by
 subst ex ey
 cases rx
 cases ry
 obtain ⟨i1,r1,⟨⟨c1,d1,t1,s1⟩,o1,k1,n1,g1⟩,_⟩:=I.tuple ha
 obtain ⟨i2,r2,⟨⟨c2,d2,t2,s2⟩,o2,k2,n2,g2⟩,_⟩:=I.tuple hb
 cases r1
 simp only at k1 g1 k2 g2
 subst k1 g1 k2 g2
 exact concat_meets ⟨_,o1,rfl⟩ ⟨_,o2,rfl⟩ noFill_tuple_add seq_tuple_add PySem.F.slot_tuple_add PySem.F.entry_tuple_add (PySem.F.args_tuple_add_2 _ _)
  (tuple_addW0 a b _ _ n1 n2 d1 d2 s1 s2 (by rfl)) ⟨o1,o2,⟨.ref b,H,I,rfl,q⟩⟩
theorem a8i (ns:List Int):∀k,k<=ns.length->preSum (fun i=>(ns[i]?).getD 0) k=(ns.take k).sum
 | 0,_=>by simp [preSum]
 | k+1,h=>by
  have hk:k<ns.length:=h
  rw [List.take_add_one,getElem?_eq_getElem hk,List.sum_append,←a8i ns k (le_of_lt hk)]
  simp [preSum,getElem?_eq_getElem hk]
theorem b5K (hc:X.calm=true):a2X X (.builtin "sum") (fun xs H Q=>∃(p:Addr) (ns:List Int),xs=[.ref p]/\SqL X.K H p (ns.map V.int)/\Q (.int ns.sum) H):=fun pins s σ H xs us Q I r ⟨p,ns,ex,hq,q⟩=>by
 subst ex
 obtain ⟨u,rfl,rx⟩:=a6d r
 cases rx
 obtain ⟨its,rv,pl,hz⟩:=I.list hq
 have hlt:p<s.heap.objs.size:=by obtain ⟨_,e,_⟩:=pl.isList;exact lt_size e
 have hlen:its.length=ns.length:=by rw [←rv.length,length_map]
 have up:∀b o,s.heap.get? b=some o->(s.heap.push { cls:=.type "list_iterator",data:=.fields #[.ref p,.int 0 0] }).get? b=some o:=fun b o e=>get?_push_of_some _ e
 refine call_sum_walkG (wpAny_pyIter_list pl.isList ⟨_,_,_,_,_,_,fun i=>(ns[i]?).getD 0,rfl,Walks.list (A:=X.A.in1) (I.ok.hd hc) s.heap.objs.size p (ne_of_lt hlt) its.toArray,⟨⟨_,get?_push_size _ rfl,rfl,rfl⟩,pl.isList.push _⟩,fun b hb=>?_,fun i v hv=>?_,fun h' tk t' hk=>?_⟩)
 ·rw [show ({ s with heap:=s.heap.push { cls:=.type "list_iterator",data:=.fields #[.ref p,.int 0 0] } }:Shared).heap.objs.size=s.heap.objs.size+1 from size_push ..]
  rcases mem_cons.mp hb with e|e
  ·rw [e];exact lt_succ_self _
  ·rw [mem_singleton.mp e];exact lt_succ_of_lt hlt
 ·have hv':its[i]?=some v:=by simpa using hv
  have hi:i<ns.length:=by rw [←hlen];exact (List.getElem?_eq_some_iff.mp hv').1
  obtain ⟨u,e,ru⟩:=rv.get (i:=i) (x:=.int ns[i]) (by rw [getElem?_map,getElem?_eq_getElem hi];rfl)
  rw [hv'] at e
  cases e
  obtain ⟨t,e⟩:=ru
  exact ⟨t,by show v=Value.int ((ns[i]?).getD 0) t;rw [e,getElem?_eq_getElem hi];rfl⟩
 ·have es:preSum (fun i=>(ns[i]?).getD 0) its.toArray.size=ns.sum:=by rw [size_toArray,hlen,a8i ns _ (le_refl _),List.take_length]
  refine ⟨.int ns.sum,H,I.kept (t':=tk) fun b o e=>hk b o (by simpa using ne_of_lt (lt_size e)) (up b o e),⟨t',by rw [es]⟩,q⟩
theorem b52 (bs:List Bool):(List.range bs.length).all (fun i=>(bs[i]?).getD false)=bs.all id:=by
 rw [Bool.eq_iff_iff,all_eq_true,all_eq_true]
 constructor
 ·intro h b hb
  obtain ⟨i,hi,rfl⟩:=List.mem_iff_getElem.mp hb
  have:=h i (mem_range.mpr hi)
  rwa [getElem?_eq_getElem hi] at this
 ·intro h i hi
  have hi':=mem_range.mp hi
  rw [getElem?_eq_getElem hi']
  exact h _ (getElem_mem hi')
theorem b5Z (bs:List Bool):(List.range bs.length).any (fun i=>(bs[i]?).getD false)=bs.any id:=by
 rw [Bool.eq_iff_iff,List.any_eq_true,List.any_eq_true]
 constructor
 ·rintro ⟨i,hi,h⟩
  have hi':=mem_range.mp hi
  rw [getElem?_eq_getElem hi'] at h
  exact ⟨_,getElem_mem hi',h⟩
 ·rintro ⟨b,hb,h⟩
  obtain ⟨i,hi,rfl⟩:=List.mem_iff_getElem.mp hb
  exact ⟨i,mem_range.mpr hi,by rw [getElem?_eq_getElem hi];exact h⟩
theorem a8r (I:Inv X pins σ H s) (hc:X.calm=true) {p:Addr} {bs:List Bool} (hq:SqL X.K H p (bs.map V.bl)) {E:Value->Shared->Prop} {Q:Value->Shared->Prop} {cmb:List Nat->(Nat->Bool)->Bool}
  (k:∀(h':Heap) (tk:Nat),(∀b o,s.heap.get? b=some o->h'.get? b=some o)->Q (.bool (cmb (List.range bs.length) fun i=>(bs[i]?).getD false)) { s with heap:=h',toks:=tk }):
  wpAny (model X.prog X.w) X.A.in1 (pyIter (.ref p)) (fun it s₂=>∃I fp wr n P St tr,it=.ref I/\Walks X.prog X.w X.A.in1 I fp wr n P St/\St 0 s₂.heap/\TruthOf X.prog X.w X.A.in1 P tr/\
   ∀h' tk,(∀b o,b∉wr->s₂.heap.get? b=some o->h'.get? b=some o)->Q (.bool (cmb (List.range n) tr)) { s₂ with heap:=h',toks:=tk }) E s:=by
 obtain ⟨its,rv,pl,hz⟩:=I.list hq
 have hlt:p<s.heap.objs.size:=by obtain ⟨_,e,_⟩:=pl.isList;exact lt_size e
 have hlen:its.length=bs.length:=by rw [←rv.length,length_map]
 refine wpAny_pyIter_list pl.isList ⟨_,_,_,_,_,_,fun i=>(bs[i]?).getD false,rfl,Walks.list (A:=X.A.in1) (I.ok.hd hc) s.heap.objs.size p (ne_of_lt hlt) its.toArray,⟨⟨_,get?_push_size _ rfl,rfl,rfl⟩,pl.isList.push _⟩,fun i v s' Q' E' hv hQ=>?_,fun h' tk hk=>?_⟩
 ·have hv':its[i]?=some v:=by simpa using hv
  have hi:i<bs.length:=by rw [←hlen];exact (List.getElem?_eq_some_iff.mp hv').1
  obtain ⟨u,e,ru⟩:=rv.get (i:=i) (x:=.bl bs[i]) (by rw [getElem?_map,getElem?_eq_getElem hi];rfl)
  rw [hv'] at e
  cases e
  cases (show v=Value.bool bs[i] from ru)
  have hQ2:Q' ((bs[i]?).getD false) s':=hQ
  rw [getElem?_eq_getElem hi] at hQ2
  exact wpAny_pure hQ2
 ·rw [size_toArray,hlen]
  exact k h' tk fun b o e=>hk b o (by simpa using ne_of_lt (lt_size e)) (get?_push_of_some _ e)
theorem b5P (hc:X.calm=true):a2X X (.builtin "all") (fun xs H Q=>∃(p:Addr) (bs:List Bool),xs=[.ref p]/\SqL X.K H p (bs.map V.bl)/\Q (.bl (bs.all id)) H):=fun pins s σ H xs us Q I r ⟨p,bs,ex,hq,q⟩=>by
 subst ex
 obtain ⟨u,rfl,rx⟩:=a6d r
 cases rx
 refine call_all_walk (a8r (cmb:=fun l f=>l.all f) I hc hq fun h' tk hk=>?_)
 exact ⟨.bl (bs.all id),H,I.kept (t':=tk) hk,by rw [b52];rfl,q⟩
theorem b5O (hc:X.calm=true):a2X X (.builtin "any") (fun xs H Q=>∃(p:Addr) (bs:List Bool),xs=[.ref p]/\SqL X.K H p (bs.map V.bl)/\Q (.bl (bs.any id)) H):=fun pins s σ H xs us Q I r ⟨p,bs,ex,hq,q⟩=>by
 subst ex
 obtain ⟨u,rfl,rx⟩:=a6d r
 cases rx
 refine call_any_walk (a8r (cmb:=fun l f=>l.any f) I hc hq fun h' tk hk=>?_)
 exact ⟨.bl (bs.any id),H,I.kept (t':=tk) hk,by rw [b5Z];rfl,q⟩
theorem b3Q:∀{xs:List V} {us:List Value},xs.length=us.length->(∀(i:Nat) x u,xs[i]?=some x->us[i]?=some u->RelV x u)->Vals xs us
 | [],[],_,_=>.nil
 | x::xs,u::us,hl,h=>.cons (h 0 x u rfl rfl) (b3Q (by simpa using hl) fun i x' u' e1 e2=>h (i+1) x' u' (by simpa using e1) (by simpa using e2))
 | [],_::_,hl,_=>by simp at hl
 | _::_,[],hl,_=>by simp at hl
theorem vals_rng {lo:Int} {acc:Array Value} {n:Nat} (h:ItemsOf (fun i v=>∃t,v=.int (lo+i * 1) t) acc n):Vals ((List.range n).map fun k:Nat=>V.int (lo+k)) acc.toList:=by
 refine b3Q (by rw [length_map,length_range,←h.1,length_toList]) fun i x u e1 e2=>?_
 obtain ⟨t,rfl⟩:=h.2 i u (by rw [←getElem?_toList];exact e2)
 rw [getElem?_map] at e1
 cases q:(List.range n)[i]? with
 | none=>rw [q] at e1;cases e1
 | some k=>
  rw [q] at e1
  cases e1
  have hk:i<n:=by
   have:=(List.getElem?_eq_some_iff.mp q).1
   rwa [length_range] at this
  rw [getElem?_range hk] at q
  cases q
  exact ⟨t,by rw [Int.mul_one]⟩
theorem b1z:a2X X (.type "range") (fun xs H Q=>∃lo hi,xs=[.int lo,.int hi]/\∀p,H p=none->Q (.ref p) (upd H p (.rng lo hi))):=fun pins s σ H xs us Q I r ⟨lo,hi,ex,q⟩=>by
 subst ex
 obtain ⟨u,w,rfl,⟨t,rfl⟩,⟨t',rfl⟩⟩:=vals2 r
 refine call_range_2 ⟨.ref s.heap.objs.size,_,I.laid (t':=s.toks+1) (o:=.rng lo hi) (fun b o e=>get?_push_of_some _ e) (le_refl _) ⟨_,_,_,get?_push_size _ rfl⟩,rfl,q _ I.fresh⟩
theorem b0v (hc:X.calm=true):a2X X (.type "list") (fun xs H Q=>∃p lo hi,xs=[.ref p]/\H p=some (.rng lo hi)/\(-(2 ^ 62)<=lo/\lo<2 ^ 62/\-(2 ^ 62)<=hi/\hi<2 ^ 62)/\(hi - lo).toNat<=sizeLine/\
  ∀l,H l=none->Q (.ref l) (upd H l (.lst ((List.range (hi - lo).toNat).map fun k:Nat=>V.int (lo+k))))):=fun pins s σ H xs us Q I r ⟨p,lo,hi,ex,hp,⟨b1,b2,b3,b4⟩,hz,q⟩=>by
 subst ex
 obtain ⟨u,rfl,ru⟩:=a6d r
 cases ru
 obtain ⟨t,u,v,e⟩:=I.hok p _ hp
 refine call_list_range (n:=(hi - lo).toNat) (I.ok.hd hc) (show IsRange s.heap p lo hi 1 t u v from e) (small_one b1 b2 b3 b4) (by rw [rangeSize_one];split <;> omega) hz fun h' tk acc c kp e' it=>?_
 exact ⟨.ref s.heap.objs.size,_,I.laid (t':=tk) (o:=.lst ((List.range (hi - lo).toNat).map fun k:Nat=>V.int (lo+k))) kp (le_refl _) ⟨by rw [length_map,length_range];exact hz,acc.toList,c,vals_rng it,by simpa using e'⟩,rfl,q _ I.fresh⟩
theorem b3l {x:V} {u:Value} {t:String} {T:String} {b:Bool} (I:Inv X pins σ H s) (rx:RelV x u) (ty:TyOf X.K H x (.type t)\/(t = "tuple" /\ ∃a xs,x=.ref a/\SqT X.K H a xs)\/(t = "list" /\ ∃a xs,x=.ref a/\SqL X.K H a xs)) (e:kitOne X.K (.type t) (.type T)=some b) {Q:Value->Shared->Prop} {E:Value->Shared->Prop} {A:Around}
  (h:∀tk,Q (.bool b) { s with toks:=tk }):wpAny (model X.prog X.w) A (call (.builtin "isinstance") [u,.type T]) Q E s:=by
 rcases ty with ty|⟨rfl,a,xs,rfl,hq⟩|⟨rfl,a,xs,rfl,hq⟩
 ·exact b5d I rx ty e h
 ·cases (show u=Value.ref a from rx)
  obtain ⟨its,_,⟨o,h1,h2,_⟩,_⟩:=I.tuple hq
  exact kia_one PySem.W.kitx_tuple I.kIn ⟨o,h1,h2⟩ e (fun z=>nomatch z) h
 ·cases (show u=Value.ref a from rx)
  obtain ⟨its,_,pl,_⟩:=I.list hq
  obtain ⟨o,h1,h2,_⟩:=pl.isList
  exact kia_one kitx_list I.kIn ⟨o,h1,h2⟩ e (fun z=>nomatch z) h
theorem b1A:a2X X (.builtin "isinstance") (fun xs H Q=>∃x t T b,xs=[x,.ty T]/\(TyOf X.K H x (.type t)\/(t = "tuple" /\ ∃a xs,x=.ref a/\SqT X.K H a xs)\/(t = "list" /\ ∃a xs,x=.ref a/\SqL X.K H a xs))/\kitOne X.K (.type t) (.type T)=some b/\Q (.bl b) H):=fun pins s σ H xs us Q I r ⟨x,t,T,b,ex,ty,e,q⟩=>by
 subst ex
 obtain ⟨u,w,rfl,ru,rw'⟩:=vals2 r
 cases (show w=Value.type T from rw')
 exact b3l I ru ty e fun tk=>⟨.bl b,H,I.tok tk,rfl,q⟩
end
section
variable {prog:Program} {w:World} {A:Around} {E:Value->Shared->Prop} {s:Shared}
end
structure Nx (prog:Program) (w:World) (A:Around) (it l:Addr) (st:Nat->Heap->Prop) (val:Nat->Option Value):Prop where
 item:∀(s:Shared) (k:Nat) (x:Value) (Q:Value->Shared->Prop) (E:Value->Shared->Prop),st k s.heap->val k=some x->(∀h',st (k+1) h'->Heap.SameBut it s.heap h'->Q x { s with heap:=h' })->wpAny (model prog w) A (Builtin.SmallTypes.nextOf (.ref it)) Q E s
 stop:∀(s:Shared) (k:Nat) (Q:Value->Shared->Prop) (E:Value->Shared->Prop),st k s.heap->val k=none->
  (∀h' e,Heap.ExtBut it s.heap h'->(∃o,h'.get? e=some o/\o.cls=.type "StopIteration")->E (.ref e) { s with heap:=h' })->wpAny (model prog w) A (Builtin.SmallTypes.nextOf (.ref it)) Q E s
 ext:∀(k:Nat) (h h':Heap),st k h->(∀b,b=it\/b=l->∀o,h.get? b=some o->h'.get? b=some o)->st k h'
 there:∀(k:Nat) (h:Heap),st k h->(∃o,h.get? it=some o/\∀v,o.data≠.cell v)/\∃o,h.get? l=some o
section
variable {prog:Program} {w:World} {A:Around} {E:Value->Shared->Prop} {s:Shared} {z TI TO i1 i2 l1 l2:Addr} {k:Nat} {st1 st2:Nat->Heap->Prop} {v1 v2:Nat->Option Value} {a b:Value}
end
section
variable {X:Cx} {pins:List (Addr×Obj)} {σ:St} {H:Hp} {s:Shared} {h':Heap}
end
def SqX (K:Frag) (H:Hp):Bool->Addr->List V->Prop
 | true,a,xs=>SqL K H a xs
 | false,a,xs=>SqT K H a xs
def itX (h:Heap):Bool->Addr->Addr->Nat->Prop
 | true,it,l,k=>h.IsListIter it l k
 | false,it,l,k=>h.IsTupleIter it l k
def isX (h:Heap):Bool->Addr->Array Value->Prop
 | true,l,its=>h.IsList l its
 | false,l,its=>h.IsTuple l its
def Itz (K:Frag) (b1:Bool) (l1:Addr) (b2:Bool) (l2:Addr):It:=
 ⟨fun i H=>∃xs ys x y,SqX K H b1 l1 xs/\SqX K H b2 l2 ys/\xs[i]?=some x/\ys[i]?=some y,
  fun i H x H'=>∃p u v,x=.ref p/\H p=none/\H'=upd H p (.tup [u,v])/\(∀xs,SqX K H b1 l1 xs->xs[i]?=some u)/\∀ys,SqX K H b2 l2 ys->ys[i]?=some v,
  fun i H=>∃xs ys,SqX K H b1 l1 xs/\SqX K H b2 l2 ys/\(xs.length<=i\/ys.length<=i)⟩
abbrev zt1 (h:Heap) (l1:Addr):Heap:=h.push { cls:=.type "tuple_iterator",data:=.fields #[.ref l1,.int 0 0] }
abbrev zt2 (h:Heap) (l1 l2:Addr):Heap:=(zt1 h l1).push { cls:=.type "tuple_iterator",data:=.fields #[.ref l2,.int 0 0] }
abbrev zt3 (h:Heap) (l1 l2:Addr):Heap:=(zt2 h l1 l2).push { cls:=.type "tuple",data:=.seq #[.ref h.objs.size,.ref (zt1 h l1).objs.size] }
abbrev zt4 (h:Heap) (l1 l2:Addr):Heap:=(zt3 h l1 l2).push { cls:=.type "tuple",data:=.seq #[.none,.none] }
abbrev zt5 (h:Heap) (l1 l2:Addr):Heap:=(zt4 h l1 l2).push { cls:=.type "zip",data:=.fields #[.none,.bool false,.bool false,.ref (zt2 h l1 l2).objs.size,.ref (zt3 h l1 l2).objs.size] }
section
variable {prog:Program} {w:World} {A:Around} {E:Value->Shared->Prop} {s:Shared}
end
section
variable {X:Cx}
def iZipX (K:Frag) (ta:TA):TI:=fun σ H R=>ta σ H fun vs H1=>∃b l1 l2,vs=[.ref l1,.ref l2]/\(∃xs,SqX K H1 b l1 xs)/\(∃ys,SqX K H1 b l2 ys)/\R (Itz K b l1 b l2) H1
end
def Ite (K:Frag) (b:Bool) (l:Addr):It:=
 ⟨fun i H=>∃xs x,SqX K H b l xs/\xs[i]?=some x,
  fun i H x H'=>∃p u,x=.ref p/\H p=none/\H'=upd H p (.tup [.int i,u])/\∀xs,SqX K H b l xs->xs[i]?=some u,
  fun i H=>∃xs,SqX K H b l xs/\xs.length<=i⟩
abbrev et1 (h:Heap) (l:Addr):Heap:=h.push { cls:=.type "tuple_iterator",data:=.fields #[.ref l,.int 0 0] }
abbrev et2 (h:Heap) (l:Addr):Heap:=(et1 h l).push { cls:=.type "enumerate",data:=.fields #[.none,.bool false,.ref h.objs.size,rawInt 0,.none,.none] }
section
variable {prog:Program} {w:World} {A:Around} {E:Value->Shared->Prop} {s:Shared}
end
section
variable {X:Cx}
def iEnumX (K:Frag) (ta:TA):TI:=fun σ H R=>ta σ H fun vs H1=>∃b l,vs=[.ref l]/\(∃xs,SqX K H1 b l xs)/\R (Ite K b l) H1
end
end L2
namespace L2
open PySem
abbrev Rise (xs:Array Nat):Prop:=xs.toList.Pairwise (· < ·)
theorem a8D {xs:Array Nat} (h:Rise xs) {i k:Nat} (hik:i<k) (hk:k<xs.size):xs[i]'(by omega)<xs[k]:=by
 have:=List.pairwise_iff_getElem.mp h i k (by simpa using (by omega:i<xs.size)) (by simpa using hk) hik
 simpa using this
theorem a9i {xs:Array Nat} (h:Rise xs) (j:Nat):∀(fuel lo hi:Nat),lo<=hi->hi<=xs.size->hi - lo<=fuel->(∀i (hi':i<xs.size),i<lo->xs[i]<j)->(∀i (hi':i<xs.size),hi<=i->j<=xs[i])->
  SetTable.below.go xs j fuel lo hi<=xs.size/\(∀i (hi':i<xs.size),i<SetTable.below.go xs j fuel lo hi->xs[i]<j)/\∀i (hi':i<xs.size),SetTable.below.go xs j fuel lo hi<=i->j<=xs[i]
 | 0,lo,hi,h1,h2,h3,h4,h5=>by
  have e:lo=hi:=by omega
  subst e
  exact ⟨h2,h4,h5⟩
 | fuel+1,lo,hi,h1,h2,h3,h4,h5=>by
  unfold SetTable.below.go
  by_cases hl:lo<hi
  ·rw [if_pos hl]
   have hm:(lo+hi) / 2<xs.size:=by omega
   have hg:xs.getD ((lo+hi) / 2) j=xs[(lo+hi) / 2]:=by simp [hm]
   dsimp only
   rw [hg]
   by_cases hc:xs[(lo+hi) / 2]<j
   ·rw [if_pos hc]
    refine a9i h j fuel _ _ (by omega) h2 (by omega) (fun i hi' hlt=>?_) h5
    by_cases e:i=(lo+hi) / 2
    ·subst e;exact hc
    ·exact Nat.lt_trans (a8D h (by omega) hm) hc
   ·rw [if_neg hc]
    refine a9i h j fuel _ _ (by omega) (by omega) (by omega) h4 (fun i hi' hle=>?_)
    by_cases e:i=(lo+hi) / 2
    ·subst e;omega
    ·have:=a8D h (show (lo+hi) / 2<i by omega) hi';omega
  ·rw [if_neg hl]
   have e:lo=hi:=by omega
   subst e
   exact ⟨h2,h4,h5⟩
theorem a5J {xs:Array Nat} (h:Rise xs) (j:Nat):SetTable.below xs j<=xs.size/\(∀i (hi':i<xs.size),i<SetTable.below xs j->xs[i]<j)/\∀i (hi':i<xs.size),SetTable.below xs j<=i->j<=xs[i]:=by
 unfold SetTable.below
 exact a9i h j xs.size 0 xs.size (zero_le _) (le_refl _) (by omega) (fun _ _ z=>absurd z (Nat.not_lt_zero _)) (fun i hi' z=>absurd hi' (by omega))
theorem b3E {xs:Array Nat} (h:Rise xs):SetTable.below xs 0=0:=by
 obtain ⟨h1,h2,_⟩:=a5J h 0
 by_cases e:SetTable.below xs 0=0
 ·exact e
 ·have:=h2 0 (by omega) (by omega)
  omega
theorem b3F {xs:Array Nat} (h:Rise xs) {i:Nat} (hi:i<xs.size):SetTable.below xs (xs[i]+1)=i+1:=by
 obtain ⟨h1,h2,h3⟩:=a5J h (xs[i]+1)
 by_cases l:SetTable.below xs (xs[i]+1)<=i
 ·have:=h3 i hi l;omega
 ·by_cases e:SetTable.below xs (xs[i]+1)=i+1
  ·exact e
  ·have hi1:i+1<xs.size:=by omega
   have a:=h2 (i+1) hi1 (by omega)
   have b:=a8D h (i:=i) (k:=i+1) (by omega) hi1
   omega
theorem a6s {α:Type} (xs:Array α) (p:Nat) (x:α) (hp:p<=xs.size):(SetTable.insertAt xs p x).toList=xs.toList.take p++x::xs.toList.drop p:=by
 unfold SetTable.insertAt
 simp [Array.toList_extract]
 rw [List.take_of_length_le (by simp)]
theorem a4M {α:Type} (xs:Array α) (p:Nat) (x:α) (hp:p<=xs.size):(SetTable.insertAt xs p x).toList.Perm (x::xs.toList):=by
 rw [a6s xs p x hp]
 refine List.perm_middle.trans ?_
 rw [List.take_append_drop]
theorem a6r {α:Type} (xs:Array α) (p:Nat) (x:α) (hp:p<=xs.size):(SetTable.insertAt xs p x).size=xs.size+1:=by
 rw [←length_toList,(a4M xs p x hp).length_eq];simp
structure Tb (t:SetTable) (m:Nat):Prop where
 mask:t.mask=7
 dum:t.dummies=#[]
 plain:t.plain=true
 size:t.place.size=m
 rise:Rise t.place
 le:∀j∈t.place.toList,j<=7
theorem Tb.fits {t:SetTable} {m:Nat} (T:Tb t m) (hm:m<=7):t.fits m=true:=by
 unfold SetTable.fits SetTable.fill
 rw [T.size,T.dum,T.mask]
 simp
 omega
theorem Tb.notFull {t:SetTable} {m:Nat} (T:Tb t m) (hm:m<=4):t.tooFull=false:=by
 unfold SetTable.tooFull SetTable.fill
 rw [T.size,T.dum,T.mask]
 simp
 omega
theorem Tb.slot {t:SetTable} {m:Nat} (T:Tb t m) (j:Nat):(t.slot j=.empty/\j∉t.place.toList)\/(∃i,t.slot j=.live i)/\j∈t.place.toList:=by
 unfold SetTable.slot
 dsimp only
 by_cases h:(t.place[SetTable.below t.place j]? == some j)=true
 ·rw [if_pos h]
  have e:t.place[SetTable.below t.place j]?=some j:=eq_of_beq h
  rw [←getElem?_toList] at e
  exact .inr ⟨⟨_,rfl⟩,mem_of_getElem? e⟩
 ·rw [if_neg h]
  have hd:SetTable.has t.dummies j=false:=by rw [T.dum];rfl
  rw [if_neg (by rw [hd];exact Bool.false_ne_true)]
  refine .inl ⟨rfl,fun hm=>h ?_⟩
  obtain ⟨i,hi,e⟩:=getElem_of_mem hm
  have hi':i<t.place.size:=by simpa using hi
  have e':t.place[i]=j:=by simpa using e
  obtain ⟨h1,h2,h3⟩:=a5J T.rise j
  have hb:SetTable.below t.place j=i:=by
   by_cases l:SetTable.below t.place j<=i
   ·by_cases l2:SetTable.below t.place j=i
    ·exact l2
    ·have hlt:SetTable.below t.place j<t.place.size:=by omega
     have a:=h3 _ hlt (le_refl _)
     have b:=a8D T.rise (show SetTable.below t.place j<i by omega) hi'
     omega
   ·have:=h2 i hi' (by omega);omega
  rw [hb,Array.getElem?_eq_getElem hi',e']
  exact beq_self_eq_true _
theorem b3D {h:Int} (h0:0<=h) (h1:h<32):SetTable.bits h=h.toNat:=by
 unfold SetTable.bits
 rw [Int.emod_eq_of_lt h0 (by omega)]
theorem four_in {l:List Nat} {a b c d:Nat} (hl:l.length<=3) (h1:a∈l) (h2:b∈l) (h3:c∈l) (h4:d∈l) (n:[a,b,c,d].Nodup):False:=by
 have hs:[a,b,c,d] ⊆ l:=by
  intro x hx
  simp at hx
  rcases hx with rfl|rfl|rfl|rfl <;> assumption
 have:=List.Nodup.length_le_of_subset n hs
 simp at this
 omega
theorem Tb.free {t:SetTable} {m:Nat} (T:Tb t m) (hm:m<=3) {h:Int} (h0:0<=h) (h1:h<32):∃j,t.freeSlot h=some (j,false)/\j<=7/\j∉t.place.toList:=by
 obtain ⟨n,rfl⟩:∃n:Nat,h=n:=⟨h.toNat,by omega⟩
 have hb:SetTable.bits (n:Int)=n:=by rw [b3D h0 h1];rfl
 have hn:n<32:=by omega
 have hl:t.place.toList.length<=3:=by rw [length_toList,T.size];exact hm
 have run:∀(i:Nat),SetTable.runEnd t.mask i=i\/7<i:=fun i=>by
  unfold SetTable.runEnd
  rw [T.mask]
  by_cases q:i+9<=7
  ·omega
  ·rw [if_neg q];exact .inl rfl
 have hrun:∀i,SetTable.runEnd t.mask i - i=0:=fun i=>by
  unfold SetTable.runEnd
  rw [T.mask,if_neg (by omega)]
  omega
 have adv:∀(i p:Nat),p / 32=0->t.advance ⟨i,0,i,p,none⟩=⟨(i * 5+1) % 8,0,(i * 5+1) % 8,0,none⟩:=fun i p hp=>by
  unfold SetTable.advance SetTable.leap
  rw [if_neg (lt_irrefl 0)]
  dsimp only
  rw [hp,hrun,T.mask]
 have step:∀(fuel i p:Nat),p / 32=0->(∃r,SetTable.probe.go t (fun _=>(n:Int)+1) n (fuel+1) ⟨i,0,i,p,none⟩=some r/\r=.empty i none/\i∉t.place.toList)\/(i∈t.place.toList/\SetTable.probe.go t (fun _=>(n:Int)+1) n (fuel+1) ⟨i,0,i,p,none⟩=SetTable.probe.go t (fun _=>(n:Int)+1) n fuel ⟨(i * 5+1) % 8,0,(i * 5+1) % 8,0,none⟩):=fun fuel i p hp=>by
  rcases T.slot i with ⟨e,ni⟩|⟨⟨k,e⟩,hi⟩
  ·refine .inl ⟨.empty i none,?_,rfl,ni⟩
   unfold SetTable.probe.go
   dsimp only
   rw [e]
  ·refine .inr ⟨hi,?_⟩
   conv=>lhs;unfold SetTable.probe.go
   dsimp only
   rw [e]
   dsimp only
   rw [if_neg (by simp;omega),adv i p hp]
 have hps:t.probeStart (n:Int)=⟨n % 8,0,n % 8,n,none⟩:=by
  unfold SetTable.probeStart
  dsimp only
  rw [hb,hrun,T.mask]
 have fin:∀{j:Nat} {r:SetTable.Met},j<8->SetTable.probe.go t (fun _=>(n:Int)+1) n (10 * SetTable.turns t.mask) ⟨n % 8,0,n % 8,n,none⟩=some r->r=.empty j none->j∉t.place.toList->∃j,t.freeSlot (n:Int)=some (j,false)/\j<=7/\j∉t.place.toList:=fun {j r} hj e er nj=>by
  refine ⟨j,?_,by omega,nj⟩
  unfold SetTable.freeSlot SetTable.probe
  rw [hps,e,er]
  rfl
 have hf:10 * SetTable.turns t.mask=216+1+1+1+1:=by unfold SetTable.turns;rw [T.mask]
 rw [hf] at fin
 have h8:n % 8<8:=Nat.mod_lt _ (by decide)
 rcases step (216+1+1+1) (n % 8) n (by omega) with ⟨r,e,er,nj⟩|⟨i1,e1⟩
 ·exact fin h8 e er nj
 rcases step (216+1+1) ((n % 8 * 5+1) % 8) 0 rfl with ⟨r,e,er,nj⟩|⟨i2,e2⟩
 ·exact fin (by omega) (e1.trans e) er nj
 rcases step (216+1) (((n % 8 * 5+1) % 8 * 5+1) % 8) 0 rfl with ⟨r,e,er,nj⟩|⟨i3,e3⟩
 ·exact fin (by omega) ((e1.trans e2).trans e) er nj
 rcases step 216 ((((n % 8 * 5+1) % 8 * 5+1) % 8 * 5+1) % 8) 0 rfl with ⟨r,e,er,nj⟩|⟨i4,e4⟩
 ·exact fin (by omega) (((e1.trans e2).trans e3).trans e) er nj
 exact (four_in hl i1 i2 i3 i4 (by
  have:n % 8=0\/n % 8=1\/n % 8=2\/n % 8=3\/n % 8=4\/n % 8=5\/n % 8=6\/n % 8=7:=by omega
  rcases this with h|h|h|h|h|h|h|h <;> rw [h] <;> decide)).elim
theorem Tb.put {t:SetTable} {m:Nat} (T:Tb t m) {j:Nat} (hj:j<=7) (nj:j∉t.place.toList):Tb (t.put j).1 (m+1)/\(t.put j).2<=m/\(t.put j).1.led=t.led:=by
 obtain ⟨h1,h2,h3⟩:=a5J T.rise j
 have hd:SetTable.has t.dummies j=false:=by rw [T.dum];rfl
 have hz:SetTable.below t.place j<=m:=by rw [←T.size];exact h1
 unfold SetTable.put
 dsimp only
 rw [if_neg (by rw [hd];exact Bool.false_ne_true)]
 refine ⟨⟨T.mask,T.dum,T.plain,?_,?_,fun k hk=>?_⟩,hz,rfl⟩
 ·show (SetTable.insertAt t.place (SetTable.below t.place j) j).size=_
  rw [a6r _ _ _ h1,T.size]
 ·show (SetTable.insertAt t.place (SetTable.below t.place j) j).toList.Pairwise (· < ·)
  rw [a6s _ _ _ h1]
  refine List.pairwise_append.mpr ⟨List.Pairwise.sublist (List.take_sublist _ _) T.rise,pairwise_cons.mpr ⟨fun k hk=>?_,List.Pairwise.sublist (List.drop_sublist _ _) T.rise⟩,fun a ha b hb=>?_⟩
  ·obtain ⟨i,hi,e⟩:=getElem_of_mem hk
   rw [List.getElem_drop] at e
   rw [length_drop,length_toList] at hi
   have a:=h3 (SetTable.below t.place j+i) (by omega) (by omega)
   have e':t.place[SetTable.below t.place j+i]'(by omega)=k:=by simpa using e
   have:k≠j:=fun z=>nj (by rw [←z];exact List.mem_of_mem_drop hk)
   omega
  ·obtain ⟨i,hi,e⟩:=getElem_of_mem ha
   rw [List.getElem_take] at e
   rw [length_take,length_toList] at hi
   have a1:=h2 i (by omega) (by omega)
   have e':t.place[i]'(by omega)=a:=by simpa using e
   rcases mem_cons.mp hb with rfl|hb
   ·omega
   ·obtain ⟨i2,hi2,e2⟩:=getElem_of_mem hb
    rw [List.getElem_drop] at e2
    rw [length_drop,length_toList] at hi2
    have a2:=h3 (SetTable.below t.place j+i2) (by omega) (by omega)
    have e3:t.place[SetTable.below t.place j+i2]'(by omega)=b:=by simpa using e2
    omega
 ·have hk':k∈(SetTable.insertAt t.place (SetTable.below t.place j) j).toList:=hk
  have:=(a4M _ _ j h1).mem_iff.mp hk'
  rcases mem_cons.mp this with rfl|z
  ·exact hj
  ·exact T.le k z
theorem Tb.lay {t:SetTable} {m:Nat} (T:Tb t m) (hm:m<=3) {h:Int} (h0:0<=h) (h1:h<32) (es:Array (Int×Value)) (he:es.size=m) (x:Value):∃es' t',layNew t es h x=(es',t',false,false)/\Tb t' (m+1)/\t'.led=t.led/\es'.toList.Perm ((h,x)::es.toList)/\es'.size=m+1:=by
 obtain ⟨j,ej,hj,nj⟩:=T.free hm h0 h1
 obtain ⟨T',hp,hled⟩:=T.put hj nj
 have hsz:(SetTable.insertAt es (t.put j).2 (h,x)).size=m+1:=by rw [a6r _ _ _ (by omega),he]
 have hfit:=T'.fits (by omega)
 refine ⟨SetTable.insertAt es (t.put j).2 (h,x),(t.put j).1,?_,T',hled,a4M _ _ _ (by omega),hsz⟩
 unfold layNew
 rw [ej]
 dsimp only
 rw [hsz,hfit]
 unfold SetTable.orStandIn
 rw [hfit]
 rfl
theorem a9I {α:Type} (next:Nat->Nat):∀(fuel k:Nat) (left:List α) (out:Array α),left.length=fuel->(pickOrder.go next fuel k left out).toList.Perm (out.toList++left)
 | 0,k,left,out,h=>by
  have:left=[]:=List.length_eq_zero_iff.mp h
  subst this
  unfold pickOrder.go
  simp
 | fuel+1,k,left,out,h=>by
  unfold pickOrder.go
  have hlt:next k % left.length<left.length:=Nat.mod_lt _ (by omega)
  rw [getElem?_eq_getElem hlt]
  dsimp only
  refine (a9I next fuel (k+1) _ _ (by rw [List.length_eraseIdx_of_lt hlt];omega)).trans ?_
  rw [Array.toList_push,List.append_assoc]
  refine List.Perm.append_left _ ?_
  have e:left=left.take (next k % left.length)++left[next k % left.length]::left.drop (next k % left.length+1):=by
   rw [←List.drop_eq_getElem_cons hlt,List.take_append_drop]
  rw [List.eraseIdx_eq_take_drop_succ]
  conv=>rhs;rw [e]
  rw [List.singleton_append]
  exact List.perm_middle.symm
theorem a7U {α:Type} (next:Nat->Nat) (xs:Array α):(pickOrder next xs).toList.Perm xs.toList:=by
 have:=a9I next xs.size 0 xs.toList #[] (by simp)
 simpa [pickOrder] using this
end L2
namespace L2
open PySem PySem.Spec PyProof.Rows
inductive EsK:List (Int×Value)->List Int->Prop
 | nil:EsK [] []
 | cons (k:Int) (tk:Tok) {es ks}:EsK es ks->EsK ((hashInt k,.int k tk)::es) (k::ks)
theorem EsK.length {es:List (Int×Value)} {ks:List Int} (h:EsK es ks):es.length=ks.length:=by
 induction h with
 | nil=>rfl
 | cons k tk _ ih=>rw [length_cons,length_cons,ih]
theorem EsK.perm {es es':List (Int×Value)} (p:es'.Perm es):∀{ks:List Int},EsK es ks->∃ks',EsK es' ks'/\ks'.Perm ks:=by
 have q:=p.symm
 clear p
 induction q with
 | nil=>intro ks h;cases h;exact ⟨[],.nil,.refl _⟩
 | cons x _ ih=>
  intro ks h
  cases h with
  | cons k tk t=>obtain ⟨ks',e,p⟩:=ih t;exact ⟨k::ks',.cons k tk e,p.cons k⟩
 | swap x y l=>
  intro ks h
  cases h with
  | cons k tk t=>cases t with
   | cons k2 tk2 t2=>exact ⟨k2::k::_,.cons k2 tk2 (.cons k tk t2),List.Perm.swap _ _ _⟩
 | trans _ _ ih1 ih2=>
  intro ks h
  obtain ⟨k1,e1,p1⟩:=ih1 h
  obtain ⟨k2,e2,p2⟩:=ih2 e1
  exact ⟨k2,e2,p2.trans p1⟩
theorem EsK.elems {prog:Program} {w:World} {es:List (Int×Value)} {ks:List Int} (h:EsK es ks):ElemsOf (intKind prog w) es:=by
 induction h with
 | nil=>intro e he;cases he
 | cons k tk _ ih=>
  intro e he
  rcases mem_cons.mp he with rfl|he
  ·exact ⟨⟨k,by simp [intKind,Value.isInt],rfl⟩,rfl⟩
  ·exact ih e he
theorem EsK.find {es:List (Int×Value)} {ks:List Int} (h:EsK es ks) (k:Int):(es.findIdx? fun e=>Value.isInt k e.2).isSome=decide (k∈ks):=by
 induction h with
 | nil=>rfl
 | cons k' tk _ ih=>
  rw [List.findIdx?_cons]
  by_cases e:k=k'
  ·subst e;simp [Value.isInt]
  ·have:Value.isInt k (Value.int k' tk)=false:=by simp [Value.isInt,Ne.symm e,e]
   simp only [this]
   rw [if_neg Bool.false_ne_true,Option.isSome_map,ih]
   simp [e]
theorem EsK.ints {es:List (Int×Value)} {ks:List Int} (h:EsK es ks):IntsAre (es.map (·.2)) ks:=by
 induction h with
 | nil=>exact .nil
 | cons k tk _ ih=>exact .cons k tk ih
def SetX (w:World) (h:Heap) (a:Addr) (ks:List Int):Prop:=∃o es ep t ks',h.get? a=some o/\o.ExactSet/\o.data=.set es ep t/\EsK es.toList ks'/\ks'.Perm ks/\Tb t es.size/\t.led=!w.params.followText "set-order"
theorem SetX.at {w:World} {h h':Heap} {a:Addr} {ks:List Int} (S:SetX w h a ks) (k:∀o,h.get? a=some o->h'.get? a=some o):SetX w h' a ks:=by
 obtain ⟨o,es,ep,t,ks',ho,r⟩:=S
 exact ⟨o,es,ep,t,ks',k o ho,r⟩
theorem hash_fin:∀n:Fin 32,hashInt ((n.val:Nat):Int)=((n.val:Nat):Int):=by decide +kernel
theorem a8o {k:Int} (h0:0<=k) (h1:k<32):hashInt k=k:=by
 have h:=hash_fin ⟨k.toNat,by omega⟩
 rwa [show (((⟨k.toNat,by omega⟩:Fin 32).val:Nat):Int)=k from Int.toNat_of_nonneg h0] at h
section
variable {prog:Program} {w:World} {A:Around} {E:Value->Shared->Prop} {s:Shared}
theorem setx_add {a:Addr} {ks:List Int} {k:Int} {tk:Tok} {Q:Bool->Shared->Prop} (S:SetX w s.heap a ks) (h0:0<=k) (h1:k<32) (hl:ks.length<=4) (hl2:k∉ks->ks.length<=3)
  (h:∀h' b,Heap.SameBut a s.heap h'->SetX w h' a (if k∈ks then ks else k::ks)->Q b { s with heap:=h',toks:=s.toks+1 }):wpAny (model prog w) A (setAdd a (.int k tk)) Q E s:=by
 obtain ⟨o,es,ep,t,ks',ho,hex,hd,hes,hp,T,hled⟩:=S
 have hsz:es.size=ks.length:=by rw [←length_toList,hes.length,hp.length_eq]
 have hf:=T.fits (by omega)
 have hel:ElemsOf (intKind prog w) es.toList:=hes.elems
 have hkey:(intKind prog w).is k (.int k tk)=true:=by simp [intKind,Value.isInt]
 unfold setAdd
 refine wpAny_holding (wpAny_bind ((intKind prog w).pyHash hkey ?_))
 unfold setAddHashed setAddHashedIn
 refine wpAny_holding (wpAny_bind (wpAny_setState_of ho hd hf ?_))
 dsimp only
 rw [byScan_of (knd:=intKind prog w) rfl (by unfold scanBound;omega) hel,if_pos rfl]
 unfold setAddByScan
 refine wpAny_bind (wpAny_bind (wpAny_rule (wpAny_bind (wpAny_setScan_of (s:={ s with toks:=s.toks+1 }) hkey ho hd hf hel ?_))))
 have hfi:=hes.find k
 have hfi':∀r,es.toList.findIdx? (fun e=>(intKind prog w).is k e.2)=r->r.isSome=decide (k∈ks'):=fun r e=>by rw [←e];exact hfi
 have hmem:k∈ks'↔k∈ks:=hp.mem_iff
 cases hr:es.toList.findIdx? (fun e=>(intKind prog w).is k e.2) with
 | some j=>
  have hk:k∈ks:=hmem.mp (by have:=hfi' _ hr;simpa using this.symm)
  dsimp only
  refine wpAny_pure (wpAny_pure (h s.heap false (Heap.SameBut.refl a s.heap) ?_))
  rw [if_pos hk]
  exact ⟨o,es,ep,t,ks',ho,hex,hd,hes,hp,T,hled⟩
 | none=>
  have hk:k∉ks:=fun z=>by have:=hfi' _ hr;rw [decide_eq_true (hmem.mpr z)] at this;cases this
  have h3:=hl2 hk
  obtain ⟨es',t',el,T',hl',hpm,hsz'⟩:=T.lay (by omega) (h:=hashInt k) (by rw [a8o h0 h1];exact h0) (by rw [a8o h0 h1];exact h1) es rfl (.int k tk)
  have el':layNew t es ((intKind prog w).hash k) (.int k tk)=(es',t',false,false):=el
  dsimp only
  rw [el']
  dsimp only
  refine wpAny_bind ?_
  show wpAny _ _ (pure ()) _ _ _
  refine wpAny_pure ?_
  rw [T'.plain,if_pos rfl,hashByValue_scannable 8 rfl]
  refine wpAny_bind (wpAny_pure ?_)
  rw [if_pos (show plainKind (Value.int k tk)=true from rfl)]
  refine wpAny_bind (wpAny_storeSet_of (s:={ s with toks:=s.toks+1 }) ho hd ?_ (by rw [hsz',sizeLine_eq];omega))
  rw [T'.notFull (by omega)]
  simp only [Bool.not_false,Bool.and_false,false_eq_true,if_false]
  refine wpAny_pure (wpAny_pure (h _ true (Heap.SameBut.update s.heap a (Obj.putSet es' t')) ?_))
  rw [if_neg hk]
  obtain ⟨ks2,e2,p2⟩:=EsK.perm hpm (.cons k tk hes)
  have hg:(s.heap.update a (Obj.putSet es' t')).get? a=some { o with data:=.set es' (ep+1) t' }:=by
   have z:=get?_update_self (Obj.putSet es' t') ho (by rw [putSet_of es' t' hd];rfl)
   rw [putSet_of es' t' hd] at z;exact z
  exact ⟨_,es',ep+1,t',ks2,hg,hex,rfl,e2,p2.trans (hp.cons k),by rw [hsz'];exact T',by rw [hl'];exact hled⟩
end
section
variable {prog:Program} {w:World} {A:Around} {E:Value->Shared->Prop} {s:Shared}
theorem b39 {R:Result->Shared->Prop} {S I l:Addr} {items:Array Value} {ns:List Int} (hh:A.in1.handled=none) (hli:l≠I) (hSI:S≠I) (hSl:S≠l) (hi:IntsAre items.toList ns) (hr:∀n∈ns,0<=n/\n<32) (h4:ns.length<=4):
  ∀(k i:Nat) (s:Shared) (ks:List Int),items.size - i=k->i<=items.size->s.heap.IsListIter I l i->s.heap.IsList l items->SetX w s.heap S ks->ks.length<=i->(∀n,n∈ks↔n∈ns.take i)->ks.Nodup->
   (∀h' tk ks',(∀b o,b≠S->b≠I->s.heap.get? b=some o->h'.get? b=some o)->SetX w h' S ks'->(∀n,n∈ks'↔n∈ns)->ks'.Nodup->R (.ok (.ret .none)) { s with heap:=h',toks:=tk })->
   codeAny (model prog w) A (.builtin "set.update.loop" ⟨[.ref S,.ref I],[]⟩) R s:=by
 have hlen:items.size=ns.length:=by rw [←length_toList];exact hi.length
 have W:=Walks.list (prog:=prog) (w:=w) hh I l hli items
 intro k
 induction k with
 | zero=>
  intro i s ks hk hile st hl S1 hkl hm nd hR
  obtain rfl:i=items.size:=by omega
  refine codeAny_builtin PyProof.Rows.F.entry_set_update_loop ?_
  rw [Around.under_plainId PyProof.Rows.F.plain_set_update_loop _]
  refine wpAny_bind (m:=pyNext (.ref I)) (W.done s _ _ ⟨st,hl⟩ fun h' tk kp=>?_)
  refine wpAny_pure (hR h' tk ks (fun b o _ hb e=>kp b o (by simpa using hb) e) (S1.at fun o e=>kp S o (by simpa using hSI) e) (fun n=>?_) nd)
  rw [hm n,hlen,List.take_length]
 | succ k ih=>
  intro i s ks hk hile st hl S1 hkl hm nd hR
  have hlt:i<items.size:=by omega
  refine codeAny_builtin PyProof.Rows.F.entry_set_update_loop ?_
  rw [Around.under_plainId PyProof.Rows.F.plain_set_update_loop _]
  refine wpAny_bind (m:=pyNext (.ref I)) (W.item i s _ _ hlt ⟨st,hl⟩ fun v h' tk hv st' kp=>?_)
  obtain ⟨t,rfl⟩:=PyProof.Rows.IntsAre.int_at hi i v (by rw [getElem?_toList];exact hv)
  have hmem:ns.getD i 0∈ns:=by rw [getD_eq_getElem?_getD,getElem?_eq_getElem (by omega)];exact getElem_mem _
  have S2:SetX w h' S ks:=S1.at fun o e=>kp S o (by simpa using hSI) e
  obtain ⟨r0,r1⟩:=hr _ hmem
  refine wpAny_bind (m:=holding _ _) (wpAny_holding (setx_add (s:={ s with heap:=h',toks:=tk }) S2 r0 r1 (by omega) (fun _=>by omega) fun h2 b sb S3=>?_))
  refine wpAny_pure ⟨plainId_quiet PyProof.Rows.F.plain_set_update_loop _,ih (i+1) _ _ (by omega) hlt ?_ ?_ S3 ?_ ?_ ?_ fun h3 tk3 ks3 kp3 S4 m4 n4=>?_⟩
  ·exact st'.1.extBut sb.extBut (Ne.symm hSI)
  ·exact st'.2.extBut sb.extBut (Ne.symm hSl)
  ·split
   ·omega
   ·rw [length_cons];omega
  ·intro n
   have htake:ns.take (i+1)=ns.take i++[ns.getD i 0]:=by
    rw [List.take_add_one,getElem?_eq_getElem (by omega),getD_eq_getElem?_getD,getElem?_eq_getElem (by omega)]
    rfl
   rw [htake,mem_append,mem_singleton,←hm n]
   split
   ·rename_i hin
    constructor
    ·exact .inl
    ·rintro (z|rfl)
     ·exact z
     ·exact hin
   ·rw [mem_cons,or_comm]
  ·split
   ·exact nd
   ·rename_i hin;exact nodup_cons.mpr ⟨hin,nd⟩
  ·refine hR h3 tk3 ks3 (fun b o hb1 hb2 e=>kp3 b o hb1 hb2 (sb.extBut b o hb1 (kp b o (by simpa using hb2) e))) S4 m4 n4
theorem setx_new (a:Value) {Q₁:Value->Shared->Prop} (h:Q₁ (.ref s.heap.objs.size) { s with heap:=s.heap.push { cls:=.type "set",dict:=none,data:=.set #[] 0 (.fresh 0 0 (!w.params.followText "set-order")) } }):
  codeAny (model prog w) A (.call (.builtin "set.__new__") ⟨[.type "set",a],[]⟩) (wants Q₁ E) s:=by
 refine codeAny_of_tree (wpAny_bind (m:=checkBuiltinCall "set.__new__" ⟨[.type "set",a],[]⟩) (wpAny_of_eq (PySem.F.newCall_set_1 a) (wpAny_pure ⟨plainId_quiet PySem.F.plain_set_new _,codeAny_builtin PySem.F.entry_set_new ?_⟩)))
 rw [Around.under_plainId PySem.F.plain_set_new _];unfold Builtin.«set.__new__» Builtin.Frozenset.newClass;have hsub:=sub_set_self
 obtain ⟨hp,g,d,tk,os⟩:=s;dsimp only;wp_walk
 refine wpAny_askSetting (wpAny_pure ?_);dsimp only;simp only [newObj]
 exact wpAny_bind (wpAny_alloc (wpAny_pure (wpAny_pure h)))
theorem b2C {h:Heap} {a:Addr} (e:h.get? a=some { cls:=.type "set",dict:=none,data:=.set #[] 0 (.fresh 0 0 (!w.params.followText "set-order")) }):SetX w h a []:=
 ⟨_,#[],0,_,[],e,⟨rfl,rfl,rfl⟩,rfl,.nil,.refl _,⟨rfl,rfl,rfl,rfl,.nil,fun j hj=>by cases hj⟩,rfl⟩
set_option maxHeartbeats 4000000 in
theorem b5L {l:Addr} {items:Array Value} {ns:List Int} {Q:Value->Shared->Prop} (hh:A.handled=none) (hl:s.heap.IsList l items) (hi:IntsAre items.toList ns) (hr:∀n∈ns,0<=n/\n<32) (h4:ns.length<=4)
  (h:∀(h':Heap) (tk:Nat) (ks:List Int),SetX w h' s.heap.objs.size ks->(∀n,n∈ks↔n∈ns)->ks.Nodup->(∀b o,s.heap.get? b=some o->h'.get? b=some o)->Q (.ref s.heap.objs.size) { s with heap:=h',toks:=tk }):
  wpAny (model prog w) A (call (.type "set") [.ref l]) Q E s:=by
 obtain ⟨c,tl,hmro⟩:=PySem.F.called_set.mro;have hmade:=PySem.F.called_set.made;have hsub:=PySem.F.called_set.sub
 refine wpAny_call (codeAny_of_tree ?_);show wpAny _ _ (callAny (.type "set") _) _ _ _
 refine wpAny_pure ⟨Code.quiet_builtin _ (by decide +kernel),codeAny_builtin PySem.F.entry_type_call ?_⟩
 rw [Around.under_plain (weight_type_call_type "set" [.ref l] []) rfl]
 have h1:=PySem.F.called_set.notType;have h2:=PySem.F.called_set.canCreate;have hct:=PySem.F.typeCall_set_1 (.ref l)
 repeat (any_goals (first|assumption|wp_step))
 generalize hO:({ cls:=.type "set",dict:=none,data:=.set #[] 0 (.fresh 0 0 (!w.params.followText "set-order")) }:Obj)=O0
 refine codeAny_mono (setx_new (.ref l) (E:=E) (Q₁:=fun obj s₁=>obj=.ref s.heap.objs.size/\s₁={ s with heap:=s.heap.push O0 }) (by rw [hO];exact ⟨rfl,rfl⟩)) fun r s₁ hr1=>?_
 cases r with
 | error e=>exact hr1
 | ok fl=>cases fl with
  | ret obj=>
   obtain ⟨rfl,rfl⟩:=hr1
   have hS:(s.heap.push O0).get? s.heap.objs.size=some O0:=get?_push_size _ (by rw [←hO];rfl)
   have hT:Shared.TypeIs { s with heap:=s.heap.push O0 } (.ref s.heap.objs.size) "set" := ⟨_,hS,by rw [←hO]⟩
   have hli:=PySem.F.called_set.init.lookup;have hbi:=PySem.F.called_set.init.bind (.ref s.heap.objs.size)
   repeat (any_goals (first|assumption|wp_step))
   refine codeAny_mono (codeAny_call_builtin (R:=wants (fun r s₂=>r=.none/\∃h' tk ks,s₂={ s with heap:=h',toks:=tk }/\SetX w h' s.heap.objs.size ks/\(∀n,n∈ks↔n∈ns)/\ks.Nodup/\∀b o,s.heap.get? b=some o->h'.get? b=some o) E) PySem.F.called_set.init.plain PySem.F.entry_set_init (check_set_init_1 hT ?_)) fun r₂ s₂ hr₂=>?_
   ·obtain ⟨⟨oc,od,odt,osl⟩,hol,hcl,nl,hdl⟩:=hl
    replace hcl:oc=.type "list" := hcl
    replace hdl:odt=.seq items nl:=hdl
    subst hcl hdl
    have hol':(s.heap.push O0).get? l=some _:=get?_push_of_some _ hol
    have hsls:=PySem.F.sub_list_set;have hslf:=PySem.F.sub_list_frozenset;have hne:(Value.type "list" == Value.type "dict")=false:=by decide
    have hl1:(s.heap.push O0).IsList l items:=⟨_,hol',rfl,nl,rfl⟩
    have hlS:l<s.heap.objs.size:=lt_size hol
    have hS0:(s.heap.push O0).get? s.heap.objs.size=some { cls:=.type "set",dict:=none,data:=.set #[] 0 (.fresh 0 0 (!w.params.followText "set-order")) }:=by rw [hO];exact hS
    unfold Builtin.«set.__init__» noKeywords Builtin.Frozenset.updateFrom;generalize hPI:pyIter=PI;subst hO;wp_walk;subst hPI
    refine wpAny_pyIter_list hl1 (wpAny_bind (wpAny_runValue ?_))
    have n1:(s.heap.push { cls:=.type "set",dict:=none,data:=.set #[] 0 (.fresh 0 0 (!w.params.followText "set-order")) }).objs.size=s.heap.objs.size+1:=size_push ..
    have hit:((s.heap.push { cls:=.type "set",dict:=none,data:=.set #[] 0 (.fresh 0 0 (!w.params.followText "set-order")) }).push { cls:=.type "list_iterator",data:=.fields #[.ref l,.int 0 0] }).get? (s.heap.objs.size+1)=some { cls:=.type "list_iterator",data:=.fields #[.ref l,.int 0 0] }:=by rw [←n1];exact get?_push_size _ rfl
    rw [n1]
    refine b39 (I:=s.heap.objs.size+1) (by simp [hh]) (ne_of_lt (lt_succ_of_lt hlS)) (ne_of_lt (lt_succ_self _)) (ne_of_gt hlS) hi hr h4 (items.size - 0) 0 _ [] rfl (zero_le _) ⟨_,hit,rfl,rfl⟩ (hl1.push _) (b2C (get?_push_of_some _ hS0)) (le_refl _) (fun n=>by simp) .nil fun h' tk ks kp S1 m1 nd=>?_
    refine wpAny_pure (wpAny_pure ⟨rfl,h',tk,ks,rfl,S1,m1,nd,fun b o e=>?_⟩)
    have hb:=lt_size e
    exact kp b o (ne_of_lt hb) (ne_of_lt (lt_succ_of_lt hb)) (get?_push_of_some _ (get?_push_of_some _ e))
   ·cases r₂ with
    | error e=>exact hr₂
    | ok fl₂=>cases fl₂ with
     | ret r=>
      obtain ⟨rfl,h',tk,ks,rfl,S1,m1,nd,kp⟩:=hr₂
      repeat (any_goals (first|assumption|wp_step))
      exact h _ _ ks S1 m1 nd kp
     | _=>exact hr₂.elim
  | _=>exact hr1.elim
end
theorem a5t:Slot "set_iterator" "__next__" "set_iterator.__next__" := .of (owner := "set_iterator") (n := "__next__") (by rw [typeLookup_type,builtinLookup_eq_fast];kernel_rfl) (by decide +kernel) (by decide +kernel) (by decide +kernel) (by first|exact .inl (by decide +kernel)|exact .inr (by decide +kernel)) (by rw [isSubtype_type];kernel_rfl)
theorem b2g:entryFor table "set_iterator.__next__" = some Builtin.«set_iterator.__next__»:=entryFor_of_tree (by kernel_rfl)
theorem b3t:entryFor table "set.__iter__" = some Builtin.«frozenset.__iter__»:=entryFor_alias (id' := "frozenset.__iter__") (by kernel_rfl) rfl (by decide +kernel) (by kernel_rfl)
theorem b2r (a:Value):argsOk "set_iterator.__next__" ⟨[a],[]⟩:=by unfold argsOk;kernel_rfl
def SetE (h:Heap) (a:Addr) (es:Array (Int×Value)) (ep:Nat) (t:SetTable):Prop:=∃o,h.get? a=some o/\o.ExactSet/\o.data=.set es ep t
def a53 (w:World) (a:Addr) (es:Array (Int×Value)) (ep:Nat):Array (Int×Value):=if w.params.followText "set-order" = true then pickOrder (w.params.setOrder a ep) es else es
theorem a8k (w:World) (a:Addr) (es:Array (Int×Value)) (ep:Nat):(a53 w a es ep).toList.Perm es.toList:=by
 unfold a53
 split
 ·exact a7U _ _
 ·exact .refl _
def markOf (w:World) (t:SetTable) (i:Nat):Nat:=if w.params.followText "set-order" = true then 0 else if i=0 then 0 else t.place.getD (i - 1) 0+1
abbrev b3k (a:Addr) (slot i n ep:Nat):Obj:={ cls:=.type "set_iterator",dict:=none,data:=.fields #[rawInt slot,rawInt i,.ref a,rawInt n,rawInt ep],slots:=#[] }
section
variable {prog:Program} {w:World} {A:Around} {E:Value->Shared->Prop} {s:Shared} {a it:Addr} {es:Array (Int×Value)} {ep:Nat} {t:SetTable}
theorem SetE.state (S:SetE s.heap a es ep t) (hf:t.fits es.size=true) {Q:(Array (Int×Value)×Nat×SetTable)->Shared->Prop} (h:Q (es,ep,t) s):wpAny (model prog w) A (setState a) Q E s:=by
 obtain ⟨o,ho,_,hd⟩:=S
 exact wpAny_setState_of ho hd hf h
theorem b4a {Q:Value->Shared->Prop} (S:SetE s.heap a es ep t) (T:Tb t es.size) (hm:es.size<=4) (h:Q (.ref s.heap.objs.size) { s with heap:=s.heap.push (b3k a 0 0 es.size ep) }):wpAny (model prog w) A (pyIter (.ref a)) Q E s:=by
 have hf:=T.fits (by omega)
 obtain ⟨o,ho,hex,hd⟩:=id S
 have hT:s.TypeIs (.ref a) "set" := ⟨o,ho,hex.1⟩
 refine wpAny_pyIter_slot hT PySem.F.slot_set_iter (wpAny_call_entry PySem.F.slot_set_iter hT b3t ?_ (PySem.F.args_set_iter_1 _))
 unfold Builtin.«frozenset.__iter__»
 rw [show Builtin.Frozenset.slot0 "__iter__" ⟨[.ref a],[]⟩=pure a from rfl]
 refine wpAny_bind (wpAny_pure (wpAny_bind (m:=Builtin.Frozenset.sizeOf a) ?_))
 unfold Builtin.Frozenset.sizeOf setEntries
 refine wpAny_bind (wpAny_bind (S.state hf (wpAny_pure (wpAny_pure (wpAny_bind (m:=setDrawn a) ?_)))))
 unfold setDrawn setsByText
 refine wpAny_bind (S.state hf ?_)
 dsimp only
 refine wpAny_bind (wpAny_bind (wpAny_askSetting (wpAny_pure (wpAny_pure ?_))))
 show wpAny _ _ (if (!w.params.followText "set-order" && (!t.plain && decide (es.size > 1)))=true then _ else _) _ _ _
 rw [T.plain,if_neg (by simp)]
 refine wpAny_bind (wpAny_pure (wpAny_bind (m:=setEpoch a) ?_))
 unfold setEpoch
 refine wpAny_bind (S.state hf (wpAny_pure (wpAny_bind (m:=newFields _ _) ?_)))
 unfold newFields
 refine wpAny_newObj_type (wpAny_pure ⟨_,rfl,"set_iterator",_,⟨_,get?_push_size _ rfl,rfl⟩,a5t.lookup,h⟩) (by size_fits)
theorem b28 (T:Tb t es.size) (hw:w.params.followText "set-order" = false) {i:Nat} (hi:i<=es.size):SetTable.below t.place (markOf w t i)=i:=by
 unfold markOf
 rw [if_neg (by rw [hw];exact Bool.false_ne_true)]
 by_cases h0:i=0
 ·subst h0;rw [if_pos rfl];exact b3E T.rise
 ·rw [if_neg h0]
  have hlt:i - 1<t.place.size:=by rw [T.size];omega
  have:=b3F T.rise hlt
  rw [Array.getD_eq_getD_getElem?,Array.getElem?_eq_getElem hlt,Option.getD_some,this]
  omega
theorem b37 {Q:Option (Value×Nat)->Shared->Prop} {i:Nat} (S:SetE s.heap a es ep t) (T:Tb t es.size) (hm:es.size<=4) (hled:t.led=!w.params.followText "set-order") (hi:i<=es.size)
  (h:Q ((a53 w a es ep)[i]?.map fun e=>(e.2,markOf w t (i+1))) s):wpAny (model prog w) A (setNext a (markOf w t i) i ep) Q E s:=by
 have hf:=T.fits (by omega)
 unfold setNext setsByText
 refine wpAny_bind (S.state hf ?_)
 dsimp only
 refine wpAny_bind (wpAny_bind (wpAny_askSetting (wpAny_pure ?_)))
 cases hw:w.params.followText "set-order" with
 | true=>
  show wpAny _ _ (if w.params.followText "set-order" = true then _ else _) _ _ _
  rw [if_pos hw]
  simp only [bne_self_eq_false,false_eq_true,if_false]
  unfold setWalk setsByText
  refine wpAny_bind (wpAny_bind (S.state hf ?_))
  dsimp only
  refine wpAny_bind (wpAny_bind (wpAny_askSetting (wpAny_pure ?_)))
  show wpAny _ _ (if w.params.followText "set-order" = true then _ else _) _ _ _
  rw [if_pos hw]
  refine wpAny_bind (wpAny_askSetting (wpAny_pure (wpAny_pure ?_)))
  have e1:a53 w a es ep=pickOrder (w.params.setOrder a ep) es:=by unfold a53;rw [if_pos hw]
  have e2:∀j,markOf w t j=0:=fun j=>by unfold markOf;rw [if_pos hw]
  rw [e1,e2] at h
  rw [e2]
  exact h
 | false=>
  show wpAny _ _ (if w.params.followText "set-order" = true then _ else _) _ _ _
  rw [if_neg (by rw [hw];exact Bool.false_ne_true)]
  show wpAny _ _ (if (!t.plain && decide (es.size > 1))=true then _ else _) _ _ _
  rw [T.plain,if_neg (by simp)]
  refine wpAny_bind ?_
  show wpAny _ _ (if (!t.led && !es.isEmpty)=true then _ else _) _ _ _
  rw [hled,hw,if_neg (by simp)]
  refine wpAny_pure (wpAny_pure ?_)
  rw [b28 T hw hi]
  have e1:a53 w a es ep=es:=by unfold a53;rw [if_neg (by rw [hw];exact Bool.false_ne_true)]
  rw [e1] at h
  by_cases hlt:i<es.size
  ·have hp:i<t.place.size:=by rw [T.size];exact hlt
   rw [Array.getElem?_eq_getElem hlt] at h ⊢
   rw [Array.getElem?_eq_getElem hp]
   have e2:markOf w t (i+1)=t.place[i]+1:=by
    unfold markOf
    rw [if_neg (by rw [hw];exact Bool.false_ne_true),if_neg (by omega),Nat.add_sub_cancel,Array.getD_eq_getD_getElem?,Array.getElem?_eq_getElem hp,Option.getD_some]
   rw [e2] at h
   exact h
  ·rw [Array.getElem?_eq_none (by omega)] at h ⊢
   exact h
theorem a8I:(a53 w a es ep).size=es.size:=by rw [←length_toList,(a8k w a es ep).length_eq,length_toList]
theorem b38 {Q:Option Value->Shared->Prop} {i:Nat} {v:Value} (S:SetE s.heap a es ep t) (T:Tb t es.size) (hm:es.size<=4) (hled:t.led=!w.params.followText "set-order") (hit:s.heap.get? it=some (b3k a (markOf w t i) i es.size ep)) (hi:i<es.size) (hv:((a53 w a es ep)[i]?.map (·.2))=some v)
  (h:∀h',h'.get? it=some (b3k a (markOf w t (i+1)) (i+1) es.size ep)->Heap.SameBut it s.heap h'->Q (some v) { s with heap:=h' }):wpAny (model prog w) A (pyNext (.ref it)) Q E s:=by
 have hf:=T.fits (by omega)
 have hT:s.TypeIs (.ref it) "set_iterator" := ⟨_,hit,rfl⟩
 unfold pyNext
 refine wpAny_bind (wpAny_attempt (wpAny_callSpecial?_slot (name:=Str.ofString "__next__") hT a5t (wpAny_call_entry a5t hT b2g ?_ (b2r _))))
 unfold Builtin.«set_iterator.__next__»
 rw [show slotArgs "__next__" 0 ⟨[.ref it],[]⟩=pure (.ref it,[]) from rfl]
 refine wpAny_bind (wpAny_pure (wpAny_bind (wpAny_fieldsOf hit rfl ?_)))
 show wpAny _ _ (setEntries a >>= _) _ _ _
 unfold setEntries
 refine wpAny_bind (wpAny_bind (S.state hf (wpAny_pure ?_)))
 show wpAny _ _ (if (((es.size:Nat):Int) != ((es.size:Nat):Int))=true then _ else _) _ _ _
 rw [if_neg (by simp)]
 show wpAny _ _ (setNext a ((markOf w t i:Nat):Int).toNat ((i:Nat):Int).toNat ((ep:Nat):Int).toNat >>= _) _ _ _
 rw [toNat_natCast,toNat_natCast,toNat_natCast]
 refine wpAny_bind (b37 S T hm hled (by omega) ?_)
 cases ho:(a53 w a es ep)[i]? with
 | none=>rw [ho] at hv;cases hv
 | some e=>
  rw [ho] at hv
  cases hv
  show wpAny _ _ (setField (.ref it) 0 (rawInt ((markOf w t (i+1):Nat):Int)) >>= _) _ _ _
  refine wpAny_bind (wpAny_setField_rec hit (by simp) fun h1 i1 s1=>?_)
  refine wpAny_bind (wpAny_setField_rec (s:={ s with heap:=h1 }) i1 (by simp) fun h2 i2 s2=>?_)
  exact wpAny_pure ⟨_,rfl,wpAny_pure (h h2 i2 (s1.trans s2))⟩
theorem b4b {Q:Option Value->Shared->Prop} (hh:A.handled=none) (S:SetE s.heap a es ep t) (T:Tb t es.size) (hm:es.size<=4) (hled:t.led=!w.params.followText "set-order") (hit:s.heap.get? it=some (b3k a (markOf w t es.size) es.size es.size ep))
  (h:∀h',Heap.ExtBut it s.heap h'->Q none { s with heap:=h' }):wpAny (model prog w) A (pyNext (.ref it)) Q E s:=by
 have hf:=T.fits (by omega)
 have hT:s.TypeIs (.ref it) "set_iterator" := ⟨_,hit,rfl⟩
 unfold pyNext
 refine wpAny_bind (wpAny_attempt (wpAny_callSpecial?_slot (name:=Str.ofString "__next__") hT a5t (wpAny_call_entry a5t hT b2g ?_ (b2r _))))
 unfold Builtin.«set_iterator.__next__»
 rw [show slotArgs "__next__" 0 ⟨[.ref it],[]⟩=pure (.ref it,[]) from rfl]
 refine wpAny_bind (wpAny_pure (wpAny_bind (wpAny_fieldsOf hit rfl ?_)))
 show wpAny _ _ (setEntries a >>= _) _ _ _
 unfold setEntries
 refine wpAny_bind (wpAny_bind (S.state hf (wpAny_pure ?_)))
 show wpAny _ _ (if (((es.size:Nat):Int) != ((es.size:Nat):Int))=true then _ else _) _ _ _
 rw [if_neg (by simp)]
 show wpAny _ _ (setNext a ((markOf w t es.size:Nat):Int).toNat ((es.size:Nat):Int).toNat ((ep:Nat):Int).toNat >>= _) _ _ _
 rw [toNat_natCast,toNat_natCast,toNat_natCast]
 refine wpAny_bind (b37 S T hm hled (le_refl _) ?_)
 rw [Array.getElem?_eq_none (by rw [a8I];exact le_refl _)]
 show wpAny _ _ (setField (.ref it) 2 Value.none >>= _) _ _ _
 refine wpAny_bind (wpAny_setField_rec hit (by simp) fun h1 i1 s1=>?_)
 refine wpAny_bind ?_;simp only [newExc,newTuple];refine wpAny_bind (wpAny_newObj_type ?_ (by size_fits))
 refine wpAny_bind (m:=firstArgMember _ _) (wpAny_of_eq (a:=Value.none) (by first|rfl|(simp only [firstArgMember];rfl)) ?_);refine wpAny_newObj_type ?_ (by size_fits);simp only [raiseNew]
 refine wpAny_bind (wpAny_handled ?_);first|rw [show A.in1.handled=none from hh]|rw [hh]
 refine wpAny_bind (wpAny_pure (wpAny_throw ?_))
 refine wpAny_bind (wpAny_isInstance (T := "StopIteration") (b:=true) ⟨_,get?_push_size _ rfl,rfl⟩ isSubtype_stop ?_)
 exact wpAny_pure (h _ ((s1.extBut.push _).push _))
end
theorem a9x:Slot "set_iterator" "__iter__" "set_iterator.__iter__" := .of (owner := "set_iterator") (n := "__iter__") (by rw [typeLookup_type,builtinLookup_eq_fast];kernel_rfl) (by decide +kernel) (by decide +kernel) (by decide +kernel) (by first|exact .inl (by decide +kernel)|exact .inr (by decide +kernel)) (by rw [isSubtype_type];kernel_rfl)
theorem b5w:entryFor table "set_iterator.__iter__" = some Builtin.«dict_keyiterator.__iter__»:=entryFor_alias (id' := "dict_keyiterator.__iter__") (by kernel_rfl) rfl (by decide +kernel) (by kernel_rfl)
theorem b5Y (a:Value):argsOk "set_iterator.__iter__" ⟨[a],[]⟩:=by unfold argsOk;kernel_rfl
section
variable {prog:Program} {w:World} {A:Around} {E:Value->Shared->Prop} {s:Shared} {a:Addr} {es:Array (Int×Value)} {ep:Nat} {t:SetTable}
theorem SetE.at {h h':Heap} (S:SetE h a es ep t) (k:∀o,h.get? a=some o->h'.get? a=some o):SetE h' a es ep t:=by
 obtain ⟨o,ho,r⟩:=S
 exact ⟨o,k o ho,r⟩
theorem b2t (hh:A.handled=none) (T:Tb t es.size) (hm:es.size<=4) (hled:t.led=!w.params.followText "set-order") (it:Addr) (ne:a≠it):
  Walks prog w A it [it,a] [it] es.size (fun i v=>((a53 w a es ep)[i]?.map (·.2))=some v) (fun i h=>h.get? it=some (b3k a (markOf w t i) i es.size ep)/\SetE h a es ep t) where
 sub:=fun b hb=>by rw [mem_singleton.mp hb];simp
 frame:=fun i h h' st k=>⟨k it (by simp) _ st.1,st.2.at fun o e=>k a (by simp) o e⟩
 item:=fun i s Q E hi st hQ=>by
  have hlt:i<(a53 w a es ep).size:=by rw [a8I];exact hi
  refine b38 (v:=(a53 w a es ep)[i].2) st.2 T hm hled st.1 hi (by rw [Array.getElem?_eq_getElem hlt];rfl) fun h' i1 sb=>?_
  exact hQ _ h' s.toks (by rw [Array.getElem?_eq_getElem hlt];rfl) ⟨i1,st.2.at fun o e=>sb.extBut _ _ ne e⟩ fun b o hb e=>sb.extBut b o (by simpa using hb) e
 done:=fun s Q E st hQ=>b4b hh st.2 T hm hled st.1 fun h' kp=>hQ h' s.toks fun b o hb e=>kp b o (by simpa using hb) e
 self:=fun i s Q E st h=>by
  have hT:s.TypeIs (.ref it) "set_iterator" := ⟨_,st.1,rfl⟩
  refine wpAny_pyIter_slot hT a9x (wpAny_call_entry a9x hT b5w (wpAny_pure ⟨_,rfl,"set_iterator",_,hT,a5t.lookup,h⟩) (b5Y _))
theorem hint_set (hT:s.TypeIs (.ref a) "set") {Q:Bool->Shared->Prop} (h:Q false s):wpAny (model prog w) A (Builtin.List.listLengthHint (.ref a)) Q E s:=by
 unfold Builtin.List.listLengthHint
 refine wpAny_bind (wpAny_specialOf hT PySem.F.slot_set_len.lookup ?_);generalize hid:("set.__len__" : String)=id0;wp_delta
 rw [show splitId id0=some ("set","__len__") from by subst hid;decide +kernel];subst hid
 refine wpAny_bind (wpAny_isInstance (T := "set") (b:=true) hT (by rw [isSubtype_type];kernel_rfl) (wpAny_ite_split (fun hab=>absurd hab (by decide)) (fun _=>wpAny_ite_split (fun _=>?_) (fun hab=>absurd (by decide +kernel) hab))))
 exact wpAny_bind (wpAny_typeOf hT (wpAny_pure h))
theorem kdl_setx (T:Tb t es.size) (hm:es.size<=4) (hled:t.led=!w.params.followText "set-order"):KdlSrc prog w "set" a a es.size (fun i v=>((a53 w a es ep)[i]?.map (·.2))=some v) (fun h=>SetE h a es ep t) where
 type:=fun s S=>by obtain ⟨o,ho,hex,_⟩:=S;exact ⟨o,ho,hex.1⟩
 there:=fun h S=>by obtain ⟨o,ho,_⟩:=S;exact ⟨lt_size ho,lt_size ho⟩
 keep:=fun h h' S k=>S.at fun o e=>k a (.inl rfl) o e
 notList:=by decide
 notTuple:=by decide
 hint:=fun A E s Q S hq=>by obtain ⟨o,ho,hex,_⟩:=S;exact hint_set ⟨o,ho,hex.1⟩ hq
 iter:=fun A s hh S=>by
  have hlt:a<s.heap.objs.size:=by obtain ⟨o,ho,_⟩:=S;exact lt_size ho
  refine ⟨b3k a 0 0 es.size ep,_,fun E Q hq=>b4a S T hm hq,b2t hh T hm hled _ (ne_of_lt hlt),?_,S.at fun o e=>get?_push_of_some _ e⟩
  have:markOf w t 0=0:=by unfold markOf;split <;> rfl
  rw [this]
  exact get?_push_size _ rfl
theorem b0k {es es':List Value} (p:es'.Perm es):∀{ks:List Int},IntsAre es ks->∃ks',IntsAre es' ks'/\ks'.Perm ks:=by
 have q:=p.symm
 clear p
 induction q with
 | nil=>intro ks h;cases h;exact ⟨[],.nil,.refl _⟩
 | cons x _ ih=>
  intro ks h
  cases h with
  | cons k tk t=>obtain ⟨ks',e,p⟩:=ih t;exact ⟨k::ks',.cons k tk e,p.cons k⟩
 | swap x y l=>
  intro ks h
  cases h with
  | cons k tk t=>cases t with
   | cons k2 tk2 t2=>exact ⟨k2::k::_,.cons k2 tk2 (.cons k tk t2),List.Perm.swap _ _ _⟩
 | trans _ _ ih1 ih2=>
  intro ks h
  obtain ⟨k1,e1,p1⟩:=ih1 h
  obtain ⟨k2,e2,p2⟩:=ih2 e1
  exact ⟨k2,e2,p2.trans p1⟩
theorem collectX {T:String} {r d:Addr} {n:Nat} {P:Nat->Value->Prop} {OK:Heap->Prop} {R:List Value->Shared->Prop} (K:KdlSrc prog w T r d n P OK) (hh:A.handled=none) (hok:OK s.heap) (hn:n<=sizeLine)
  (h:∀(h':Heap) (tk:Nat) (acc:Array Value),(∀b o,s.heap.get? b=some o->h'.get? b=some o)->s.heap.objs.size<h'.objs.size->ItemsOf P acc n->R acc.toList { s with heap:=h',toks:=tk }):wpAny (model prog w) A (collect (.ref r)) R E s:=by
 obtain ⟨hr,hd⟩:=K.there _ hok
 unfold collect
 refine wpAny_bind (wpAny_runValue (codeAny_builtin entry_proto_collect' ?_));rw [Around.under_plainId PySem.F.plain_proto_collect _]
 refine wpAny_bind (m:=newList []) (wpAny_newObj_type (wpAny_pure ⟨plainId_quiet PySem.F.plain_list_iadd _,codeAny_builtin entry_list_iadd' ?_⟩));rw [Around.under_plainId PySem.F.plain_list_iadd _]
 have e0:(s.heap.push { cls:=.type "list",data:=.seq ([]:List Value).toArray }).get? s.heap.objs.size=some { cls:=.type "list",data:=.seq #[] }:=get?_push_size _ rfl
 have fin:∀(q:Result) (s':Shared),(∃(h':Heap) (tk:Nat) (acc:Array Value) (c:Nat),q=.ok (.ret (.ref s.heap.objs.size))/\s'={ s with heap:=h',toks:=tk }/\(∀b o,s.heap.get? b=some o->h'.get? b=some o)/\h'.get? s.heap.objs.size=some { cls:=.type "list",dict:=none,data:=.seq acc c,slots:=#[] }/\ItemsOf P acc n)->∃v,q=.ok (.ret v)/\wpAny (model prog w) A (match v with|.ref a=>(do match (←load a).data with|.seq xs _=>pure xs.toList|_=>unsupported "internal:collect")|_=>unsupported "internal:collect") R E s':=by
  rintro q s' ⟨h',tk,acc,c,rfl,rfl,kp,e,it⟩
  exact ⟨_,rfl,wpAny_bind (wpAny_load e (wpAny_pure (h h' tk acc kp (lt_size e) it)))⟩
 have key:=PySem.W.kdl_extend (A:=A) (s:={ s with heap:=s.heap.push { cls:=.type "list",data:=.seq ([]:List Value).toArray } }) (R:=fun q s'=>∃(h':Heap) (tk:Nat) (acc:Array Value) (c:Nat),q=.ok (.ret (.ref s.heap.objs.size))/\s'={ s with heap:=h',toks:=tk }/\(∀b o,s.heap.get? b=some o->h'.get? b=some o)/\h'.get? s.heap.objs.size=some { cls:=.type "list",dict:=none,data:=.seq acc c,slots:=#[] }/\ItemsOf P acc n)
  K hh (K.keep _ _ hok fun b _ o e=>get?_push_of_some _ e) s.heap.objs.size (ne_of_gt hr) (ne_of_gt hd) (.ref s.heap.objs.size) 0 e0 (fun h' tk acc c kp e it=>⟨h',tk,acc,c,rfl,rfl,fun b o q=>kp b o (ne_of_lt (lt_size q)) (get?_push_of_some _ q),e,it⟩) hn
 refine wpAny_mono key (fun fn s' x=>?_) (fun e s' x=>by obtain ⟨_,_,_,_,z,_⟩:=x;cases z)
 cases fn with
 | done f=>obtain ⟨v,e,z⟩:=fin _ _ x;cases e;exact z
 | again c=>exact ⟨x.1,codeAny_mono x.2 fun q s2 y=>by obtain ⟨v,e,z⟩:=fin _ _ y;subst e;exact z⟩
theorem b0s {ks:List Int} {Q:Value->Shared->Prop} (hh:A.handled=none) (S:SetX w s.heap a ks) (hk:ks.length<=4)
  (h:∀(h':Heap) (tk:Nat) (out:List Value) (ns:List Int) (D:Addr) (n:Nat),IntsAre out ns->ns.Perm ks->ns.Pairwise (·<=·)->(∀b o,s.heap.get? b=some o->h'.get? b=some o)->s.heap.objs.size<=D->h'.get? D=some { cls:=.type "list",data:=.seq out.toArray n }->Q (.ref D) { s with heap:=h',toks:=tk }):
  wpAny (model prog w) A (call (.builtin "sorted") [.ref a]) Q E s:=by
 obtain ⟨o,es,ep,t,ks',ho,hex,hd,hes,hp,T,hled⟩:=S
 have hsz:es.size=ks.length:=by rw [←length_toList,hes.length,hp.length_eq]
 have S1:SetE s.heap a es ep t:=⟨o,ho,hex,hd⟩
 refine Calls.call_function_entry kind_sorted plain_sorted entry_sorted (args_sorted1 _) ?_
 unfold Builtin.«sorted»
 refine wpAny_bind (m:=checkCount "sorted" 1 1 _) (wpAny_pure (wpAny_bind (collectX (A:=A.in1) (kdl_setx T (by omega) hled) hh S1 (by rw [sizeLine_eq];omega) fun h1 tk acc kp hlt0 hacc=>?_)))
 have hperm:(acc.toList).Perm (es.toList.map (·.2)):=by
  have e:acc.toList=(a53 w a es ep).toList.map (·.2):=by
   refine List.ext_getElem? fun i=>?_
   rw [getElem?_map,getElem?_toList,getElem?_toList]
   by_cases hi:i<acc.size
   ·have:=hacc.2 i acc[i] (Array.getElem?_eq_getElem hi)
    rw [Array.getElem?_eq_getElem hi,this]
   ·rw [Array.getElem?_eq_none (by omega),Array.getElem?_eq_none (by rw [a8I,←hacc.1];omega)]
    rfl
  rw [e]
  exact (a8k w a es ep).map _
 obtain ⟨k1,hints,pk⟩:∃k1,IntsAre acc.toList k1/\k1.Perm ks:=by
  obtain ⟨k1,e1,p1⟩:=b0k hperm hes.ints
  exact ⟨k1,e1,p1.trans hp⟩
 have hal:acc.toList.length<=4:=by rw [hints.length,pk.length_eq];exact hk
 refine wpAny_bind (wpAny_newList ?_ (by rw [sizeLine_eq];omega))
 have hoL:(h1.push { cls:=.type "list",data:=.seq acc.toList.toArray }).get? h1.objs.size=some (seqObj "list" acc.toList.toArray 0):=get?_push_size _ rfl
 refine wpAny_bind (wpAny_holding (wpAny_call_entry (s:={ s with heap:=h1.push { cls:=.type "list",data:=.seq acc.toList.toArray },toks:=tk }) slot_list_sort ⟨_,hoL,rfl⟩ entry_list_sort (list_sort_tree hoL hints (by omega) fun out ns' i1 p2 so=>⟨_,rfl,?_⟩) (args_list_sort _)))
 obtain ⟨e,he⟩:=sortedHeap_at (out:=out) hoL
 have hle:s.heap.objs.size<=h1.objs.size:=le_of_lt hlt0
 refine wpAny_pure ⟨_,rfl,h _ _ out.toList ns' h1.objs.size e i1 (p2.trans pk) so (fun b o hb=>?_) hle (by simpa [seqObj] using he)⟩
 have hb1:=kp b o hb
 have hlt:=lt_size hb1
 rw [sortedHeap_old (ne_of_lt hlt) (by rw [size_push];exact lt_succ_of_lt hlt)]
 exact get?_push_of_some _ hb1
end
section
variable {X:Cx}
def few (ns:List Int):Prop:=ns.length<=4/\∀n∈ns,0<=n/\n<32
def setO (w:World) (a:Addr) (ks:List Int):HO:=.ext fun h=>SetX w h a ks
theorem setO_ok {P:Program} {w:World} {H:Hp} {h:Heap} {a:Addr} {ks:List Int} (S:SetX w h a ks):a3G P w H h a (setO w a ks):=by
 refine ⟨S,?_,fun h1 h2 S1 k=>S1.at k⟩
 obtain ⟨o,_,_,_,_,e,_⟩:=S
 exact ⟨o,e⟩
theorem b5M (hc:X.calm=true):a2X X (.type "set") (fun xs H Q=>∃(p:Addr) (ns:List Int),xs=[.ref p]/\SqL X.K H p (ns.map V.int)/\few ns/\∀(a:Addr) (ks:List Int),H a=none->(∀n,n∈ks↔n∈ns)->ks.Nodup->Q (.ref a) (upd H a (setO X.w a ks))):=fun pins s σ H xs us Q I rs ⟨p,ns,ex,sq,fw,q⟩=>by
 subst ex
 obtain ⟨u,rfl,r2⟩:=a6d rs
 obtain rfl:u=Value.ref p:=r2
 obtain ⟨its,rv,pl,hz⟩:=I.list sq
 refine b5L (I.ok.hd hc) pl.isList (by simpa using b3m rv) fw.2 fw.1 fun h' tk ks S m nd kp=>?_
 exact ⟨.ref s.heap.objs.size,_,I.laid (o:=setO X.w s.heap.objs.size ks) (t':=tk) kp (le_refl _) (setO_ok S),rfl,q _ ks (I.hok.fresh (le_refl _)) m nd⟩
theorem a8a:∀{us:List Value} {ns:List Int},IntsAre us ns->Vals (ns.map V.int) us
 | _,_,.nil=>.nil
 | _,_,.cons n t r=>.cons ⟨t,rfl⟩ (a8a r)
theorem b0t (hc:X.calm=true):a2X X (.builtin "sorted") (fun xs H Q=>∃(a:Addr) (ks:List Int),xs=[.ref a]/\H a=some (setO X.w a ks)/\ks.length<=4/\∀(l:Addr) (ns:List Int),H l=none->ns.Perm ks->ns.Pairwise (·<=·)->Q (.ref l) (upd H l (.lst (ns.map V.int)))):=fun pins s σ H xs us Q I rs ⟨a,ks,ex,ea,hk,q⟩=>by
 subst ex
 obtain ⟨u,rfl,r2⟩:=a6d rs
 obtain rfl:u=Value.ref a:=r2
 obtain ⟨S,_,_⟩:SetX X.w s.heap a ks/\_:=I.hok a _ ea
 refine b0s (I.ok.hd hc) S hk fun h' tk out ns D n it pm so kp hD e=>?_
 refine ⟨.ref D,_,I.laid (o:=.lst (ns.map V.int)) (t':=tk) kp hD ⟨?_,out,n,a8a it,e⟩,rfl,q D ns (I.hok.fresh hD) pm so⟩
 rw [length_map,pm.length_eq,sizeLine_eq]
 omega
theorem b5T:bootBuiltins "set" = some (.type "set"):=by decide +kernel
theorem b0B:bootBuiltins "sorted" = some (.builtin "sorted"):=by decide +kernel
end
end L2
namespace L2
open PySem PySem.Spec PyProof.Rows PySem.W
section
variable {prog:Program} {w:World} {A:Around} {E:Value->Shared->Prop} {s:Shared} {it l:Addr}
end
def revO (it l:Addr) (n:Nat):HO:=.ext fun h=>h.IsRevIter it l ((n:Int) - 1)
section
variable {X:Cx} {pins:List (Addr×Obj)} {σ:St} {s:Shared}
end
theorem a8u {p q:Pos} {c cv:Value}:∀(l:List Value),TriplesOk l->codeAmong p (l++[rawInt q.line,rawInt q.col,c])=some cv->codeAmong p l=some cv\/((q.line=p.line/\q.col=p.col)/\cv=c)
 | [],_,h=>by
  have h':(if (q.line:Int) == (p.line:Int) && (q.col:Int) == (p.col:Int) then some c else none)=some cv:=h
  split at h'
  ·rename_i hh
   cases h'
   simp at hh
   exact .inr ⟨⟨by have:=hh.1;omega,by have:=hh.2;omega⟩,rfl⟩
  ·cases h'
 | .int a x::.int b y::d::rest,t,h=>by
  have t':TriplesOk rest:=t
  have h':(if a == p.line && b == p.col then some d else codeAmong p (rest++[rawInt q.line,rawInt q.col,c]))=some cv:=h
  show (if a == p.line && b == p.col then some d else codeAmong p rest)=some cv\/_
  split at h'
  ·rename_i hh;rw [if_pos hh];exact .inl h'
  ·rename_i hh
   rw [if_neg hh]
   exact a8u rest t' h'
structure LamT where
 params:Arguments
 body:Expr
 scope:Scope
 qual:Str
 par:Str
 fv:List Str
abbrev LamT.obj (L:LamT) (clos:List (Str×Addr)) (pm:Value) (c:Addr) (ctv:Value):Obj:=kla_obj "<lambda>" L.qual L.params L.body L.scope clos pm c ctv
def BltM (mg:Str->Option Value) (h:Heap):Prop:=
 ∃bm o,mg "__builtins__" = some (.ref bm)/\bm≠builtinsNs/\bm≠mainGlobals/\h.get? bm=some o/\o.cls=.type "module" /\ o.dict=some builtinsNs/\o.data=.plain
def b1H (good:Pos->Option Str):Prop:=∀p q:Pos,p.line=q.line->p.col=q.col->good p=good q
def tLam (L:LamT) (P:Addr) (good:Pos->Option Str) (clos:List (Str×Addr)):TE:=fun _ H Q=>H P=some (.tab good)/\
 ∀(H0:Hp) (a:Addr) (pm:Value) (c:Addr) (ctv:Value),Same H H0->H0 a=none->Q (.ref a) (upd H0 a (.frz (L.obj clos pm c ctv) (.fnc c L.qual)))
section
variable {X:Cx}
theorem pe_lam {L:LamT} {P c:Addr} {good:Pos->Option Str} {clos:List (Str×Addr)} {pos:Pos} (hgp:b1H good) (hC:CodeHd X.base c P) (hcode:X.env.code=.ref c) (hB:BltM X.mg X.base) (hq:X.env.qual ++ "<lambda>" = L.qual) (hg:good pos=some L.qual)
  (hcl:closureFor L.scope X.env=pure clos) (hdef:defaultsOf L.params X.env=([],[])):PE X (.Lambda L.params L.body L.scope pos) (tLam L P good clos):=by
 intro pins s σ H Q I ⟨hP,h⟩
 refine kla_eval hdef ?_
 rw [hq]
 obtain ⟨ps,eP,tr,hgood⟩:=I.hok P _ hP
 obtain ⟨bm,ob,b1,b2,b3,b4,b5,b6,b7⟩:=hB
 have nP:∀b o,X.base.get? b=some o->b≠P:=fun b o e z=>by
  have:=(I.bs b o e).2
  rw [z,hP] at this;cases this
 have hgP:mainGlobals≠P:=by
  obtain ⟨o,es,ep,e,_⟩:=I.mod.glob
  exact nP _ _ e
 have hB':s.heap.BuiltinsAt X.mg P:=⟨bm,ob,b1,b2,b3,nP _ _ b4,I.bk _ _ b4,b5,b6,b7⟩
 have hG:s.heap.Ns mainGlobals X.mg:=I.mod.glob.keeps I.bk
 cases hc:codeAmong pos ps.toList with
 | none=>
  refine kla_makeFunction (mg:=X.mg) hcl I.ok.glob hG hcode (hC.keeps I.bk) eP tr hc hgP hB' fun c' ctv h' tk hx hge hlt hrec htb=>?_
  obtain ⟨c₂,oc,vs,t,e2,hoc,hd,hv⟩:=hrec
  cases e2
  have f1:H c'=none:=I.hok.fresh hge
  have cP:c'≠P:=fun z=>by rw [z,hP] at f1;cases f1
  have s1:Same H (upd H c' (.frz oc (.own c'))):=fun b u e=>by rw [a0S (a0O e f1)];exact e
  have sz:s.heap.objs.size<=h'.objs.size:=le_of_lt (lt_of_le_of_lt hge hlt)
  have ok1:HOk X.prog X.w (upd H c' (.frz oc (.own c'))) h':=fun b u e=>by
   by_cases hb:b=c'
   ·subst hb;rw [a0W] at e;cases e;exact ⟨hoc,⟨oc,hoc⟩⟩
   ·rw [a0S hb] at e
    by_cases hbP:b=P
    ·subst hbP
     rw [hP] at e;cases e
     refine ⟨_,htb,?_,fun p cv hgp' hcv=>?_⟩
     ·rw [Array.toList_append];exact TriplesOk_snoc _ _ _ _ tr
     ·rw [Array.toList_append] at hcv
      rcases a8u _ tr hcv with z|⟨⟨z1,z2⟩,z3⟩
      ·obtain ⟨c2,oc2,q2,vs2,t2,r1,r2,r3⟩:=hgood p cv hgp' z
       exact ⟨c2,oc2,q2,vs2,t2,r1,s1 _ _ r2,r3⟩
      ·exact ⟨c',oc,L.qual,vs,t,z3,a0W,by rw [←hgp pos p z1 z2];exact hg,hd,hv⟩
    ·refine (I.hok b u e).stay (fun x v hxb q=>hx x v (fun z=>?_) q) (fun x q=>s1 _ _ q) (fun x xs q=>s1 _ _ q) fun x o v q=>s1 _ _ q
     rcases hxb with z'|z'
     ·exact hbP (z'.symm.trans z)
     ·rw [z,hP] at z';cases z'
  have I1:Inv X pins σ (upd H c' (.frz oc (.own c'))) { s with heap:=h',toks:=tk }:=I.un (t':=tk) ⟨fun b o q n _ _=>hx b o (fun z=>by rw [z,hP] at n;cases n) q,
    fun b o q n _ _=>⟨o.slots,hx b o (fun z=>by rw [z,hP] at n;cases n) q⟩,fun b o q n _=>by rw [a0S (ne_of_lt (lt_of_lt_of_le (lt_size q) hge))];exact n,fun b o q _=>by
     by_cases hb:b=P
     ·subst hb;exact ⟨_,htb⟩
     ·exact ⟨o,hx b o hb q⟩,fun b xs q=>s1 _ _ q,fun b o u q=>s1 _ _ q,fun b qs q=>⟨#[],by rw [s1 _ _ q];simp⟩⟩ ok1
  have f2:upd H c' (.frz oc (.own c')) h'.objs.size=none:=I1.hok.fresh (le_refl _)
  exact ⟨.ref h'.objs.size,_,I1.laid (o:=.frz (L.obj clos ((X.mg "__name__").getD .none) c' ctv) (.fnc c' L.qual)) (fun b u q=>get?_push_of_some _ q) (le_refl _)
   ⟨get?_push_size _ rfl,⟨_,get?_push_size _ rfl⟩,oc,vs,t,by rw [a0S (ne_of_lt hlt),a0W],hd,hv⟩,rfl,h _ _ _ _ _ s1 f2⟩
 | some cv=>
  obtain ⟨c',oc,q,vs,t,rfl,hc',hgq,hd,hv⟩:=hgood pos cv (by rw [hg];rfl) hc
  rw [hg] at hgq
  cases hgq
  refine kla_makeFunctionHit (mg:=X.mg) hcl I.ok.glob hG hcode (hC.keeps I.bk) eP tr hc hB' fun ctv h' tk hk hsz=>?_
  have f2:H h'.objs.size=none:=I.hok.fresh hsz
  have ne:c'≠h'.objs.size:=a0O hc' f2
  exact ⟨.ref h'.objs.size,_,I.laid (o:=.frz (L.obj clos ((X.mg "__name__").getD .none) c' ctv) (.fnc c' L.qual)) (t':=tk) (fun b u q=>get?_push_of_some _ (hk b u q)) hsz
   ⟨get?_push_size _ rfl,⟨_,get?_push_size _ rfl⟩,oc,vs,t,by rw [a0S ne];exact hc',hd,hv⟩,rfl,h _ _ _ _ _ (.refl _) f2⟩
end
theorem a5o:∀(names:List (Str×NameKind)) (n:Nat) (acc:List (Str×Addr)),cellsFrom n names acc=cellsFrom n names []++acc
 | [],_,_=>rfl
 | (x,k)::r,n,acc=>by
  unfold cellsFrom
  split
  ·rw [a5o r (n+1) ((x,n)::acc),a5o r (n+1) [(x,n)],List.append_assoc];rfl
  ·exact a5o r n acc
theorem a5E {α:Type} {x:Str}:∀{l m:List (Str×α)},(l++m).lookup x=(match l.lookup x with|some c=>some c|none=>m.lookup x)
 | [],m=>rfl
 | (y,c)::l,m=>by
  rw [cons_append,lookup_cons,lookup_cons]
  cases x == y with
  | true=>rfl
  | false=>exact a5E
structure InD (s₀:Shared) (env:Env) (clos:List (Str×Addr)) (x:Str) (v:Value) (s:Shared):Prop where
 inc:∃m,InCall s₀ env.locals m s/\Look env s.heap m x v
 cell:∀n c,(n,c)∈env.cells->∃u,s.heap.IsCell c u
 apart:env.cells.Pairwise fun x y=>x.2≠y.2
 above:∀n c,(n,c)∈env.cells->(n,c)∈clos\/env.locals<c
section
variable {M:Model} {A:Around} {E:Value->Shared->Prop} {s:Shared}
theorem b3X {env:Env} {x:Str} {v:Value} (f:Str×Value->PUnit->Sem (ForInStep PUnit)) (hf:∀n v u,f (n,v) u=(do storeName env n v;pure (.yield ⟨⟩))) (hk:env.scope.kind=.function)
  {m:Str->Option Value} (hns:s.heap.Ns env.locals m) (hx:env.kindOf x=some .local\/(env.kindOf x=some .cell/\∃c,env.cells.lookup x=some c/\env.locals<c)) (cl:∀n c,(n,c)∈env.cells->∃u,s.heap.IsCell c u) (ne:∀n c,(n,c)∈env.cells->c≠env.locals)
  {Q:PUnit->Shared->Prop} (h:∀h' m' e tk,h'.Ns env.locals m'->Look env h' m' x v->Heap.SameBut e s.heap h'->env.locals<=e->(∀n c,(n,c)∈env.cells->∃u,h'.IsCell c u)->Q ⟨⟩ { s with heap:=h',toks:=tk }):wpAny M A (forIn [(x,v)] ⟨⟩ f) Q E s:=by
 rw [forIn_cons,hf]
 rcases hx with hl|⟨hl,c,hc,hLc⟩
 ·refine wpAny_bind (wpAny_bind (wpAny_storeName_local hl hns (fun h' hn' hs'=>wpAny_pure ?_) (by rw [hk];rfl)))
  show wpAny M A (forIn [] _ _) Q E _
  rw [forIn_nil]
  refine wpAny_pure (h h' _ env.locals _ hn' (.inl ⟨hl,?_⟩) hs' (le_refl _) fun n c hm=>?_)
  ·simp
  ·obtain ⟨u,hu⟩:=cl n c hm
   exact ⟨u,hu.sameBut hs' (ne n c hm)⟩
 ·obtain ⟨u,hu⟩:=cl x c (PySem.mem_of_lookup hc)
  refine wpAny_bind (wpAny_bind (wpAny_storeName_cell hk hl hc hu fun h' hc' hs'=>wpAny_pure ?_))
  show wpAny M A (forIn [] _ _) Q E _
  rw [forIn_nil]
  refine wpAny_pure (h h' m c _ (hns.sameBut hs' (ne_of_lt hLc)) (.inr ⟨.inl hl,c,hc,hc'⟩) hs' (le_of_lt hLc) fun n c2 hm=>?_)
  by_cases z:c2=c
  ·subst z;exact ⟨_,hc'⟩
  ·obtain ⟨u2,hu2⟩:=cl n c2 hm
   exact ⟨u2,hu2.sameBut hs' z⟩
theorem b20 {scope:Scope} {globals:Addr} {clos:List (Str×Addr)} {x:Str} {v:Value} {qual:Str} {func:Option Addr} {code:Value} {builtins:Addr} {Q:Env->Shared->Prop}
  (hk:scope.kind=.function) (hx:scope.names.lookup x=some .local\/scope.names.lookup x=some .cell)
  (hc:∀n c,(n,c)∈clos->∃u,s.heap.IsCell c u) (ha:clos.Pairwise fun x y=>x.2≠y.2)
  (hQ:∀env,env=newEnv scope s.heap.objs.size globals (cellsFrom (s.heap.objs.size+1) scope.names clos) qual func code none builtins->∀s',InD s env clos x v s'->Q env s'):
  wpAny M A (newFunctionEnv scope globals clos [(x,v)] qual func code none builtins) Q E s:=by
 simp only [newFunctionEnv,Option.isSome_none,false_eq_true,if_false]
 refine wpAny_bind (wpAny_alloc ?_)
 refine wpAny_bind (wpAny_layCells _ (fun name kind cells=>by cases hkc:kind == NameKind.cell <;> simp [hkc]) _ _ _ _ ?_)
 have ok:=cellsFrom_ok scope.names (s.heap.push { cls:=.type "frame",data:=.dict #[] }) (s.heap.objs.size+1) [] ⟨fun _ _ hm=>(nomatch hm),List.Pairwise.nil⟩ (by rw [size_push];exact le_refl _)
 rw [size_push] at ok
 rw [show ({ s with heap:=s.heap.push { cls:=.type "frame",data:=.dict #[] } }:Shared).heap.objs.size=s.heap.objs.size+1 from size_push ..]
 have eC:cellsFrom (s.heap.objs.size+1) scope.names clos=cellsFrom (s.heap.objs.size+1) scope.names []++clos:=a5o _ _ _
 have kp:∀b o,s.heap.get? b=some o->(pushCells (s.heap.push { cls:=.type "frame",data:=.dict #[] }) scope.names).get? b=some o:=fun b o e=>pushCells_keeps _ _ b o (get?_push_of_some _ e)
 have hns:(pushCells (s.heap.push { cls:=.type "frame",data:=.dict #[] }) scope.names).Ns s.heap.objs.size (fun _=>none):=(Heap.Ns.new s.heap (.type "frame")).keeps (pushCells_keeps _ _)
 have cl:∀n c,(n,c)∈cellsFrom (s.heap.objs.size+1) scope.names clos->∃u,(pushCells (s.heap.push { cls:=.type "frame",data:=.dict #[] }) scope.names).IsCell c u:=fun n c hm=>by
  rw [eC] at hm
  rcases mem_append.mp hm with z|z
  ·exact ⟨none,(ok.empty n c z).1⟩
  ·obtain ⟨u,hu⟩:=hc n c z
   exact ⟨u,hu.keeps kp⟩
 have ab:∀n c,(n,c)∈cellsFrom (s.heap.objs.size+1) scope.names clos->(n,c)∈clos\/s.heap.objs.size<c:=fun n c hm=>by
  rw [eC] at hm
  rcases mem_append.mp hm with z|z
  ·exact .inr (ok.empty n c z).2
  ·exact .inl z
 have ne:∀n c,(n,c)∈cellsFrom (s.heap.objs.size+1) scope.names clos->c≠s.heap.objs.size:=fun n c hm=>by
  rcases ab n c hm with z|z
  ·obtain ⟨u,hu⟩:=hc n c z
   exact ne_of_lt hu.lt
  ·exact ne_of_gt z
 have ap:(cellsFrom (s.heap.objs.size+1) scope.names clos).Pairwise fun x y=>x.2≠y.2:=by
  rw [eC]
  refine List.pairwise_append.mpr ⟨ok.apart,ha,fun a hm b hb z=>?_⟩
  have l1:=(ok.empty a.1 a.2 hm).2
  obtain ⟨u,hu⟩:=hc b.1 b.2 hb
  have z':a.2=b.2:=z
  exact lt_irrefl _ (Nat.lt_trans (z'▸hu.lt:a.2<s.heap.objs.size) l1)
 have hx':scope.names.lookup x=some .local\/(scope.names.lookup x=some .cell/\∃c,(cellsFrom (s.heap.objs.size+1) scope.names clos).lookup x=some c/\s.heap.objs.size<c):=by
  rcases hx with z|z
  ·exact .inl z
  ·obtain ⟨c,e⟩:=a7b (n:=s.heap.objs.size+1) z
   exact .inr ⟨z,c,by rw [eC,a5E,e],(ok.empty x c (PySem.mem_of_lookup e)).2⟩
 refine wpAny_bind (b3X (s:={ s with heap:=pushCells (s.heap.push { cls:=.type "frame",data:=.dict #[] }) scope.names }) (env:=newEnv scope s.heap.objs.size globals (cellsFrom (s.heap.objs.size+1) scope.names clos) qual func code none builtins) _ (fun _ _ _=>rfl) hk hns hx' cl ne fun h' m' e tk ns lk sb le cc=>wpAny_pure ?_)
 exact hQ _ rfl _ ⟨⟨m',⟨⟨h',tk,rfl⟩,ns,fun b o q=>sb.extBut b o (ne_of_lt (lt_of_lt_of_le (lt_size q) le)) (kp b o q),le_refl _⟩,lk⟩,cc,ap,ab⟩
end
theorem a4S {y:Str} {c:Addr}:∀(names:List (Str×NameKind)) (n:Nat) (acc:List (Str×Addr)),(y,c)∈cellsFrom n names acc->(y,c)∈acc\/(y,NameKind.cell)∈names
 | [],_,_,h=>.inl h
 | (x,k)::r,n,acc,h=>by
  unfold cellsFrom at h
  split at h
  ·rename_i hk
   rcases a4S r _ _ h with z|z
   ·rcases mem_cons.mp z with z|z
    ·cases z
     rw [eq_of_beq hk]
     exact .inr mem_cons_self
    ·exact .inl z
   ·exact .inr (mem_cons_of_mem _ z)
  ·rcases a4S r _ _ h with z|z
   ·exact .inl z
   ·exact .inr (mem_cons_of_mem _ z)
theorem a5U {α:Type} {y:Str} {c:α}:∀{fv:List Str} {cs:List α} {j:Nat},fv.Nodup->fv[j]?=some y->cs[j]?=some c->(fv.zip cs).lookup y=some c
 | [],_,_,_,h,_=>by simp at h
 | _::_,[],_,_,_,h=>by simp at h
 | f::fv,d::cs,0,nd,h1,h2=>by
  simp at h1 h2;subst h1;subst h2
  simp [lookup_cons]
 | f::fv,d::cs,j+1,nd,h1,h2=>by
  have h1':fv[j]?=some y:=by simpa using h1
  have ne:(y == f)=false:=by
   apply beq_false_of_ne
   rintro rfl
   exact (nodup_cons.mp nd).1 (mem_of_getElem? h1')
  rw [zip_cons_cons,lookup_cons,ne]
  exact a5U (nodup_cons.mp nd).2 h1' (by simpa using h2)
def without (H:Hp) (cs:List Addr):Hp:=fun b=>if b∈cs then none else H b
def back (H:Hp) (cs:List Addr) (H2:Hp):Hp:=fun b=>if b∈cs then H b else H2 b
def a2z (H:Hp) (cs:List Addr) (xs:List V):Prop:=Paired (fun (c:Addr) (x:V)=>∃o u,H c=some (.frz o (.own c))/\o.data=.cell (some u)/\RelV x u) cs xs
theorem a2z.mono {H H':Hp} {cs:List Addr} {xs:List V} (s:Same H H') (h:a2z H cs xs):a2z H' cs xs:=Paired.mapP h fun _ _ ⟨o,u,e,r⟩=>⟨o,u,s _ _ e,r⟩
theorem a2z.mem {H:Hp}:∀{cs:List Addr} {xs:List V},a2z H cs xs->∀c∈cs,∃o u,H c=some (.frz o (.own c))/\o.data=.cell (some u)
 | _::_,_::_,.cons ⟨o,u,e,d,_⟩ t,c,hc=>by
  rcases mem_cons.mp hc with rfl|hc
  ·exact ⟨o,u,e,d⟩
  ·exact a2z.mem t c hc
theorem a2z.get {H:Hp}:∀{cs:List Addr} {xs:List V} {j:Nat} {x:V},a2z H cs xs->xs[j]?=some x->∃c o u,cs[j]?=some c/\H c=some (.frz o (.own c))/\o.data=.cell (some u)/\RelV x u
 | c::_,_::_,0,x,.cons ⟨o,u,e,d,r⟩ t,h=>by
  simp at h;subst h
  exact ⟨c,o,u,rfl,e,d,r⟩
 | _::_,_::_,j+1,x,.cons _ t,h=>by
  obtain ⟨c,o,u,h1,h2⟩:=a2z.get (j:=j) t (by simpa using h)
  exact ⟨c,o,u,by simpa using h1,h2⟩
 | [],[],j,x,.nil,h=>by simp at h
theorem a2z.length {H:Hp}:∀{cs:List Addr} {xs:List V},a2z H cs xs->cs.length=xs.length
 | [],[],.nil=>rfl
 | _::_,_::_,.cons _ t=>by rw [length_cons,length_cons,a2z.length t]
theorem a6L {H:Hp} {cs:List Addr} {b:Addr} {u:HO} (h:without H cs b=some u):b∉cs/\H b=some u:=by
 unfold without at h
 split at h
 ·cases h
 ·rename_i n;exact ⟨n,h⟩
theorem a47 {H:Hp} {cs:List Addr} {b:Addr} (h:H b=none):without H cs b=none:=by
 unfold without;split
 ·rfl
 ·exact h
theorem a4r {H:Hp} {cs:List Addr} {b:Addr} (h:b∉cs):without H cs b=H b:=by unfold without;rw [if_neg h]
theorem a9k {H H2:Hp} {cs:List Addr} {b:Addr} (h:b∉cs):back H cs H2 b=H2 b:=by unfold back;rw [if_neg h]
theorem a6B {H H2:Hp} {cs:List Addr} {b:Addr} (h:b∈cs):back H cs H2 b=H b:=by unfold back;rw [if_pos h]
theorem a3G.to {P:Program} {w:World} {H H':Hp} {h:Heap} {a:Addr} {o:HO} (x:a3G P w H h a o) (k:∀b v,H b=some v->(∀ob u z,v=.frz ob u->ob.data≠.cell z)->H' b=some v):a3G P w H' h a o:=by
 induction o with
 | lst xs=>exact x
 | tup xs=>exact x
 | dK kvs=>exact x
 | dT kvs=>
  obtain ⟨z,y,xs,r,rest⟩:=x
  exact ⟨z,y,xs,Paired.mapP r fun p q z=>⟨z.1,k _ _ z.2.1 (fun _ _ _ e=>nomatch e),z.2.2⟩,rest⟩
 | set S n=>exact x
 | ins C dx fs=>exact ⟨k _ _ x.1 (fun _ _ _ e=>nomatch e),x.2⟩
 | own y=>exact x
 | xd fs=>exact x
 | rng lo hi=>exact x
 | frz ob u ih=>exact ⟨x.1,ih x.2⟩
 | tbl ps=>exact x
 | tab good=>
  obtain ⟨ps,e,tr,q⟩:=x
  refine ⟨ps,e,tr,fun p cv hg hc=>?_⟩
  obtain ⟨c,oc,qq,vs,t,e1,e2,e3,e4,e5⟩:=q p cv hg hc
  exact ⟨c,oc,qq,vs,t,e1,k _ _ e2 (fun ob u z e=>by cases e;rw [e4];exact fun e=>nomatch e),e3,e4,e5⟩
 | fnc c q=>
  obtain ⟨y,oc,vs,t,e1,e2,e3⟩:=x
  exact ⟨y,oc,vs,t,k _ _ e1 (fun ob u z e=>by cases e;rw [e2];exact fun e=>nomatch e),e2,e3⟩
 | met f y=>exact x
 | ext φ=>exact x
theorem HOk.without {P:Program} {w:World} {H:Hp} {h:Heap} {cs:List Addr} (x:HOk P w H h) (hc:∀c∈cs,∃o u,H c=some (.frz o (.own c))/\o.data=.cell (some u)):HOk P w (without H cs) h:=fun a o e=>by
 obtain ⟨_,e⟩:=a6L e
 refine a3G.to (x a o e) fun b v hb nc=>?_
 rw [a4r]
 ·exact hb
 ·intro hm
  obtain ⟨ob,u,q,d⟩:=hc b hm
  rw [hb] at q;cases q
  exact nc _ _ _ rfl d
structure a4V (N:List Str) (L:LamT):Prop where
 kind:L.scope.kind=.function
 co:L.scope.isCoroutine=false
 gen:L.scope.isGenerator=false
 nd:N.Nodup
 pre:N.take (1+L.fv.length)=L.par::L.fv
 par:L.scope.names.lookup L.par=some .local\/L.scope.names.lookup L.par=some .cell
 fvs:∀y∈L.fv,L.scope.names.lookup y=some .free/\(y,NameKind.cell)∉L.scope.names
 all:∀y,L.scope.names.lookup y=some .free->y∈L.fv
abbrev a6R (L:LamT) (n f c:Addr) (clos:List (Str×Addr)):Env:=newEnv L.scope n mainGlobals (cellsFrom (n+1) L.scope.names clos) (L.qual ++ ".<locals>.") (some f) (.ref c) none builtinsNs
def cxLam (P:Program) (w:World) (K:Frag) (mg:Str->Option Value) (base:Heap) (N:List Str) (L:LamT) (f c:Addr) (clos:List (Str×Addr)) (A:Around) (outer:List Env) (s:Shared) (H:Hp):Cx where
 prog:=P
 w:=w
 K:=K
 mg:=mg
 base:=base
 A:=A.deeper (a6R L s.heap.objs.size f c clos)
 N:=N
 s₀:=s
 H₀:=H
 env:=a6R L s.heap.objs.size f c clos
 outer:=outer
 stack:=a6R L s.heap.objs.size f c clos::outer
 ex:=[]
 calm:=true
 fn:=fun x=>L.scope.names.lookup x == some .cell
 pn:=[]
 xe:=fun _ _=>False
section
variable {P:Program} {w:World} {K:Frag} {mg:Str->Option Value} {base:Heap} {N:List Str} {L:LamT} {f c:Addr} {cs:List Addr} {A:Around} {outer:List Env} {s s1:Shared} {H:Hp} {u:Value} {v:V} {xs:List V}
theorem Env0.without (e:Env0 P w K mg base A outer s H) (hc:∀c∈cs,∃o u,H c=some (.frz o (.own c))/\o.data=.cell (some u)):Env0 P w K mg base A outer s (L2.without H cs):=
 ⟨e.frames,e.mod,fun b o q=>⟨(e.bs b o q).1,a47 (e.bs b o q).2⟩,e.bsz,e.funs,fun b hb=>a47 (e.frf b hb),e.hok.without hc,e.bare⟩
theorem b0L {cs:List Addr} {fv:List Str} {y:Str} {c:Addr} (h:(y,c)∈fv.zip cs):c∈cs:=(of_mem_zip h).2
theorem a9o:∀{fv:List Str} {cs:List Addr},cs.Nodup->(fv.zip cs).Pairwise fun x y=>x.2≠y.2
 | [],_,_=>.nil
 | _::_,[],_=>.nil
 | f::fv,c::cs,nd=>by
  rw [zip_cons_cons]
  refine pairwise_cons.mpr ⟨fun y hy z=>?_,a9o (nodup_cons.mp nd).2⟩
  have z':c=y.2:=z
  exact (nodup_cons.mp nd).1 (z'▸b0L (y:=y.1) (c:=y.2) hy)
theorem inv_lam (S:a4V N L) (hd:A.handled=none) (e0:Env0 P w K mg base A outer s H) (hcs:a2z H cs xs) (nd:cs.Nodup) (hl:cs.length=L.fv.length) (r:RelV v u)
  (x:InD s (a6R L s.heap.objs.size f c (L.fv.zip cs)) (L.fv.zip cs) L.par u s1):
  Inv (cxLam P w K mg base N L f c (L.fv.zip cs) A outer s (without H cs)) [] (start N (v::xs)) (without H cs) s1:=by
 have e1:=e0.without hcs.mem
 have hpl:1+L.fv.length<=N.length:=by have:=congrArg List.length S.pre;rw [length_take,length_cons] at this;omega
 obtain ⟨m,inc,lk⟩:=x.inc
 obtain ⟨h1,tk,rfl,hk⟩:=inc.done
 have noA:∀b:Addr,b∉(cxLam P w K mg base N L f c (L.fv.zip cs) A outer s (without H cs)).ex:=fun b z=>absurd (show b∈([]:List Addr) from z) (by simp)
 have eC:(a6R L s.heap.objs.size f c (L.fv.zip cs)).cells=cellsFrom (s.heap.objs.size+1) L.scope.names []++L.fv.zip cs:=a5o _ _ _
 have hxl:xs.length=L.fv.length:=by rw [←hcs.length];exact hl
 have fvc:∀(j:Nat) (y:Str),L.fv[j]?=some y->∀c',cs[j]?=some c'->(a6R L s.heap.objs.size f c (L.fv.zip cs)).cells.lookup y=some c':=fun j y hy c' hc'=>by
  rw [eC,a5E]
  have nf:L.fv.Nodup:=by
   have:(L.par::L.fv).Nodup:=by rw [←S.pre];exact S.nd.sublist (List.take_sublist _ _)
   exact (nodup_cons.mp this).2
  cases q:(cellsFrom (s.heap.objs.size+1) L.scope.names []).lookup y with
  | none=>exact a5U nf hy hc'
  | some d=>
   rcases a4S _ _ _ (PySem.mem_of_lookup q) with z|z
   ·cases z
   ·exact absurd z (S.fvs y (mem_of_getElem? hy)).2
 refine ⟨⟨e0.mod,S.kind,rfl,rfl,le_refl _,fun y z c h1 h2=>?_,fun y hy=>?_,fun y c' hf h=>?_,fun _=>hd,Around.frames_deeper e0.frames,.inr ⟨rfl,rfl⟩,fun b z=>absurd z (noA b),e1.bs,e1.bsz,fun b _ _=>noA b,fun b z=>absurd z (noA b),e1.funs,e1.frf⟩,
  rfl,e1.bare,Un.kept hk,⟨m,inc.ns,fun i y v' h1 h2 h3=>?_⟩,fun y c h=>x.cell y c (PySem.mem_of_lookup h),e1.hok.fresh (le_refl _),fun y c' h=>?_,fun p hp=>absurd (show p∈([]:List (Addr×Obj)) from hp) (by simp),e1.hok.kept hk,?_⟩
 ·exact name_of_addr x.apart (PySem.mem_of_lookup h1) (PySem.mem_of_lookup h2)
 ·have hy:L.scope.names.lookup y=some .cell\/L.scope.names.lookup y=some .free:=hy
  show ∃c',(a6R L s.heap.objs.size f c (L.fv.zip cs)).cells.lookup y=some c'
  rcases hy with hy|hy
  ·obtain ⟨c',q⟩:=a7b (n:=s.heap.objs.size+1) hy
   exact ⟨c',by rw [eC,a5E,q]⟩
  ·obtain ⟨j,hj,ej⟩:=getElem_of_mem (S.all y hy)
   have hj':j<cs.length:=by rw [hl];exact hj
   exact ⟨cs[j],fvc j y (by rw [getElem?_eq_getElem hj,ej]) _ (getElem?_eq_getElem hj')⟩
 ·have hf:L.scope.names.lookup y=some .cell:=eq_of_beq hf
  rcases x.above y c' (PySem.mem_of_lookup h) with z|z
  ·have hm:=(of_mem_zip z).1
   rw [(S.fvs y hm).1] at hf;cases hf
  ·exact le_of_lt z
 ·cases i with
  | zero=>
   have hy:y=L.par:=by
    have q:=congrArg (·[0]?) S.pre
    simp only [List.getElem?_take_of_lt (show 0<1+L.fv.length by omega)] at q
    have h1':N[0]?=some y:=h1
    rw [h1'] at q
    simpa using q
   subst hy
   have hv:v'=v:=by
    have h2':(start N (v::xs))[0]?=some (some v'):=h2
    unfold start at h2'
    simpa using h2'.symm
   subst hv
   exact ⟨u,r,lk⟩
  | succ j=>
   have hj:j<xs.length:=by
    have h2':(start N (v::xs))[j+1]?=some (some v'):=h2
    unfold start at h2'
    by_cases z:j<xs.length
    ·exact z
    ·rw [getElem?_append_right (by simp;omega),getElem?_replicate] at h2'
     split at h2' <;> cases h2'
   have hv:xs[j]?=some v':=by
    have h2':(start N (v::xs))[j+1]?=some (some v'):=h2
    unfold start at h2'
    rw [getElem?_append_left (by simp;omega),getElem?_map] at h2'
    simpa using h2'
   have hy:L.fv[j]?=some y:=by
    have q:=congrArg (·[j+1]?) S.pre
    simp only [List.getElem?_take_of_lt (show j+1<1+L.fv.length by omega)] at q
    have h1':N[j+1]?=some y:=h1
    rw [h1'] at q
    simpa using q.symm
   obtain ⟨c',o,u',hc',hH,hdat,rv⟩:=hcs.get hv
   refine ⟨u',rv,.inr ⟨.inr (S.fvs y (mem_of_getElem? hy)).1,c',fvc j y hy c' hc',⟨o,hk _ _ (e0.hok c' _ hH).1,hdat⟩⟩⟩
 ·rcases x.above y c' (PySem.mem_of_lookup h) with z|z
  ·show without H cs c'=none
   unfold without
   rw [if_pos (b0L z)]
  ·exact e1.hok.fresh (le_of_lt z)
 ·unfold start
  show _=N.length
  rw [length_append,length_map,length_replicate,length_cons]
  omega
theorem run_lam {k:Nat} {a:Addr} {pm ctv:Value} {Q:VK} {t:TE} (S:a4V N L) (hbind:∀(pm:Value) (clos:List (Str×Addr)) (c:Addr) (ctv u:Value),bindArgs (kla_fn "<lambda>" L.qual L.params L.body L.scope clos pm (.ref c) ctv) ⟨[u],[]⟩=pure [(L.par,u)])
  (hr:Room (k+1) A) (e0:Env0 P w K mg base A outer s H) (ha:H a=some (.frz (L.obj (L.fv.zip cs) pm c ctv) (.fnc c L.qual))) (hcs:a2z H cs xs) (nd:cs.Nodup) (hl:cs.length=L.fv.length) (r:RelV v u)
  (hb:PE (cxLam P w K mg base N L a c (L.fv.zip cs) A outer s (without H cs)) L.body t) (ht:t (start N (v::xs)) (without H cs) fun v' H2=>Q v' (back H cs H2)):
  codeAny (model P w) A (.call (.ref a) ⟨[u],[]⟩) (CR CX0 outer P w H s Q E0) s:=by
 obtain ⟨eA,_,oc,vs,tk,hcode,hdd,hv⟩:=e0.hok a _ ha
 have hrec:s.heap.CodeRec (.ref c) L.qual:=⟨c,oc,vs,tk,rfl,(e0.hok c _ hcode).1,hdd,hv⟩
 have lim:s.heap.NoLimit:=e0.mod.nolimit.keeps fun b o e=>(e0.bs b o e).1
 refine kla_callFunE hr.depth eA rfl S.co S.gen rfl hrec ?_
 rw [hbind]
 refine wpAny_pure (b20 S.kind S.par (fun y c' hm=>?_) (a9o nd) fun env he s1 x=>?_)
 ·obtain ⟨o,u',q,d⟩:=hcs.mem c' (b0L hm)
  exact ⟨some u',o,(e0.hok c' _ q).1,d⟩
 subst he
 obtain ⟨m,inc,_⟩:=id x.inc
 refine ⟨lim.keeps inc.keep,kla_codeExpr ?_⟩
 have I:=inv_lam (c:=c) (f:=a) S hr.hd e0 hcs nd hl r x
 refine wpAny_mono (hb [] s1 _ _ _ I ht) (fun uu s' ⟨v',H2,J,rv,q⟩=>?_) fun _ _ z=>z.elim
 have un:Un (frs outer) [] (without H cs) H2 s.heap s'.heap:=J.base
 have inH:∀b,b∈cs->∃o u,H b=some (.frz o (.own b))/\o.data=.cell (some u)/\s'.heap.get? b=some o/\H2 b=none:=fun b hb=>by
  obtain ⟨o,u',q,d⟩:=hcs.mem b hb
  have g:=(e0.hok b _ q).1
  have n:without H cs b=none:=by unfold without;rw [if_pos hb]
  exact ⟨o,u',q,d,un.keep b o g n (fun z=>by rw [e0.frf b z] at q;cases q) (by simp),un.free b o g n (by simp)⟩
 have sm:∀b o,H2 b=some o->back H cs H2 b=some o:=fun b o e=>by
  rw [a9k]
  ·exact e
  ·intro hb
   obtain ⟨_,_,_,_,_,z⟩:=inH b hb
   rw [z] at e;cases e
 have wo:∀b,H b=none->without H cs b=none/\b∉cs:=fun b n=>⟨a47 n,fun hb=>by
  obtain ⟨_,_,q,_⟩:=inH b hb
  rw [q] at n;cases n⟩
 have lift:∀b o,H b=some o->b∉cs->without H cs b=some o:=fun b o e hb=>by rw [a4r hb];exact e
 refine ⟨v',back H cs H2,J.os,J.bare,⟨fun b o g n=>un.keep b o g (wo b n).1,fun b o g n=>un.slot b o g (wo b n).1,fun b o g n hx=>by rw [a9k (wo b n).2];exact un.free b o g (wo b n).1 hx,un.there,fun b ys e=>?_,fun b o z e=>?_,fun b ps e=>?_⟩,fun b o e=>?_,rv,q⟩
 ·by_cases hb:b∈cs
  ·rw [a6B hb];exact e
  ·exact sm _ _ (un.tups b ys (lift _ _ e hb))
 ·by_cases hb:b∈cs
  ·rw [a6B hb];exact e
  ·exact sm _ _ (un.frzs b o z (lift _ _ e hb))
 ·by_cases hb:b∈cs
  ·exact ⟨#[],by rw [a6B hb,e];simp⟩
  ·obtain ⟨more,z⟩:=un.tbls b ps (lift _ _ e hb)
   exact ⟨more,sm _ _ z⟩
 ·by_cases hb:b∈cs
  ·obtain ⟨o',u',q',d,g,_⟩:=inH b hb
   rw [a6B hb,q'] at e
   cases e
   exact ⟨g,⟨o',g⟩⟩
  ·rw [a9k hb] at e
   exact (J.hok b o e).stay (fun _ _ _ z=>z) (fun _ z=>sm _ _ z) (fun _ _ z=>sm _ _ z) fun _ _ _ z=>sm _ _ z
end
abbrev a7L (h:Heap) (z TI TO T:Addr) (b:Bool):Prop:=
 h.get? z=some { cls:=.type "zip",dict:=none,data:=.fields #[rawInt T,.bool b,.bool false,.ref TI,.ref TO],slots:=#[] }
section
variable {prog:Program} {w:World} {A:Around} {E:Value->Shared->Prop} {s:Shared}
theorem b5Q {z TI TO T:Addr} {b:Bool} {oT:Obj} {Q:Bool->Shared->Prop} (hz:a7L s.heap z TI TO T b) (hT:s.heap.get? T=some oT)
  (hQ:∀h',a7L h' z TI TO T true->Heap.SameBut z s.heap h'->Q false { s with heap:=h' }):wpAny (model prog w) A (Builtin.SmallTypes.ownedTupleIsFree (.ref z)) Q E s:=by
 unfold Builtin.SmallTypes.ownedTupleIsFree
 refine wpAny_bind (wpAny_field hz rfl (x:=rawInt T) rfl ?_)
 show wpAny _ _ (loadIfAlive ((T:Int).toNat) >>= _) _ _ _
 rw [toNat_natCast]
 refine wpAny_bind (kdx_alive hT ?_)
 simp only [Option.isNone_some,false_eq_true,if_false]
 refine wpAny_bind (wpAny_field hz rfl (x:=.bool b) rfl ?_)
 cases b with
 | true=>
  rw [if_neg (show ¬((Value.bool true != Value.bool true)=true) from Bool.false_ne_true)]
  exact wpAny_pure (hQ s.heap hz (Heap.SameBut.refl _ _))
 | false=>
  rw [if_pos (show (Value.bool false != Value.bool true)=true from rfl)]
  refine wpAny_bind (wpAny_setField_rec hz (by simp) fun h₃ he₃ hs₃=>?_)
  exact wpAny_pure (hQ h₃ he₃ hs₃)
theorem b3L {z TI TO i1 i2 l1 l2 T:Addr} {b:Bool} {oT:Obj} {k1 k2:Nat} {xs ys:Array Value} {x y:Value} {Q:Value->Shared->Prop} (D:ZipApart z TI TO i1 i2 l1 l2)
  (hz:a7L s.heap z TI TO T b) (hT:s.heap.get? T=some oT) (hTI:IsPair s.heap TI (.ref i1) (.ref i2))
  (h1:s.heap.IsListIter i1 l1 k1) (h2:s.heap.IsListIter i2 l2 k2) (hl1:s.heap.IsList l1 xs) (hl2:s.heap.IsList l2 ys) (hx:xs[k1]?=some x) (hy:ys[k2]?=some y)
  (hQ:∀h',a7L h' z TI TO T true->h'.IsListIter i1 l1 (k1+1)->h'.IsListIter i2 l2 (k2+1)->IsPair h' s.heap.objs.size x y->h'.objs.size=s.heap.objs.size+1->
   (∀c o,c≠z->c≠i1->c≠i2->s.heap.get? c=some o->h'.get? c=some o)->Q (.ref s.heap.objs.size) { s with heap:=h' }):
  wpAny (model prog w) A (Builtin.«zip.__next__» ⟨[.ref z],[]⟩) (fun fin s'=>∃v,fin=.done (.ret v)/\Q v s') E s:=by
 show wpAny _ _ (field (.ref z) 2 >>= _) _ _ _
 refine wpAny_bind (wpAny_field hz rfl (x:=.bool false) rfl ?_)
 show wpAny _ _ (field (.ref z) 3 >>= _) _ _ _
 refine wpAny_bind (wpAny_field hz rfl (x:=.ref TI) rfl ?_)
 refine wpAny_bind (wpAny_seqItems hTI rfl ?_)
 show wpAny _ _ (Builtin.SmallTypes.ownedTupleIsFree (.ref z) >>= _) _ _ _
 refine wpAny_bind (b5Q hz hT fun h₁ hz₁ hs₁=>?_)
 simp only [false_eq_true,if_false]
 rw [←Array.forIn_toList]
 simp only [forIn_cons,forIn_nil]
 refine wpAny_bind (wpAny_bind (wpAny_bind (wpAny_holding ?_)))
 show wpAny _ _ (Builtin.SmallTypes.nextOf (.ref i1) >>= _) _ _ _
 refine wpAny_bind (wpAny_nextOf_list_item (h1.extBut hs₁.extBut D.i1z) (hl1.extBut hs₁.extBut D.l1z) hx fun h₂ h1₂ hs₂=>wpAny_pure ?_)
 refine wpAny_pure ?_
 refine wpAny_bind (wpAny_bind (wpAny_holding ?_))
 show wpAny _ _ (Builtin.SmallTypes.nextOf (.ref i2) >>= _) _ _ _
 refine wpAny_bind (wpAny_nextOf_list_item ((h2.extBut hs₁.extBut D.i2z).extBut hs₂.extBut D.i12.symm)
  ((hl2.extBut hs₁.extBut D.l2z).extBut hs₂.extBut D.l2i1) hy fun h₄ h2₄ hs₄=>wpAny_pure ?_)
 refine wpAny_pure (wpAny_pure ?_)
 refine wpAny_bind (wpAny_newTuple ?_ (by show (2:Nat)<=sizeLine;decide))
 have hsz:h₄.objs.size=s.heap.objs.size:=by rw [hs₄.1,hs₂.1,hs₁.1]
 have kp:∀c o,c≠z->c≠i1->c≠i2->s.heap.get? c=some o->h₄.get? c=some o:=fun c o c1 c2 c3 e=>hs₄.extBut _ _ c3 (hs₂.extBut _ _ c2 (hs₁.extBut _ _ c1 e))
 have hz₄:a7L h₄ z TI TO T true:=hs₄.extBut _ _ D.i2z.symm (hs₂.extBut _ _ D.i1z.symm hz₁)
 refine wpAny_pure ⟨_,rfl,?_⟩
 show Q (.ref h₄.objs.size) _
 have hp:IsPair (h₄.push { cls:=.type "tuple",data:=.seq #[x,y] }) s.heap.objs.size x y:=by rw [←hsz];exact get?_push_size _ rfl
 rw [hsz]
 exact hQ _ (get?_push_of_some _ hz₄) ((h1₂.extBut hs₄.extBut D.i12).at fun o e=>get?_push_of_some _ e) (h2₄.at fun o e=>get?_push_of_some _ e) hp (by rw [size_push,hsz]) fun c o c1 c2 c3 e=>get?_push_of_some _ (kp c o c1 c2 c3 e)
theorem zipB_end {z TI TO i1 i2 l1 l2 T:Addr} {b:Bool} {oT:Obj} {k1:Nat} {xs:Array Value} {Q:Fin->Shared->Prop} (hh:A.handled=none) (D:ZipApart z TI TO i1 i2 l1 l2)
  (hz:a7L s.heap z TI TO T b) (hT:s.heap.get? T=some oT) (hTI:IsPair s.heap TI (.ref i1) (.ref i2)) (h1:s.heap.IsListIter i1 l1 k1) (hl1:s.heap.IsList l1 xs) (hx:xs[k1]?=none)
  (hE:∀h' e,(∀c o,c≠z->c≠i1->s.heap.get? c=some o->h'.get? c=some o)->(∃o,h'.get? e=some o/\o.cls=.type "StopIteration")->E (.ref e) { s with heap:=h' }):
  wpAny (model prog w) A (Builtin.«zip.__next__» ⟨[.ref z],[]⟩) Q E s:=by
 show wpAny _ _ (field (.ref z) 2 >>= _) _ _ _
 refine wpAny_bind (wpAny_field hz rfl (x:=.bool false) rfl ?_)
 show wpAny _ _ (field (.ref z) 3 >>= _) _ _ _
 refine wpAny_bind (wpAny_field hz rfl (x:=.ref TI) rfl ?_)
 refine wpAny_bind (wpAny_seqItems hTI rfl ?_)
 show wpAny _ _ (Builtin.SmallTypes.ownedTupleIsFree (.ref z) >>= _) _ _ _
 refine wpAny_bind (b5Q hz hT fun h₁ hz₁ hs₁=>?_)
 simp only [false_eq_true,if_false]
 rw [←Array.forIn_toList]
 simp only [forIn_cons,forIn_nil]
 refine wpAny_bind (wpAny_bind (wpAny_bind (wpAny_holding ?_)))
 show wpAny _ _ (Builtin.SmallTypes.nextOf (.ref i1) >>= _) _ _ _
 refine wpAny_bind (wpAny_nextOf_list_end hh (h1.extBut hs₁.extBut D.i1z) (hl1.extBut hs₁.extBut D.l1z) hx fun h₂ e hs₂ he=>?_)
 exact hE h₂ e (fun c o c1 c2 q=>hs₂ _ _ c2 (hs₁.extBut _ _ c1 q)) he
structure ZSt (h:Heap) (z TI TO i1 i2 l1 l2 S:Addr) (xs ys:Array Value) (i:Nat):Prop where
 zip:(i=0/\IsZip h z TI TO .none)\/∃T b oT,a7L h z TI TO T b/\h.get? T=some oT/\T∉[z,TO,i1,i2,S]
 ti:IsPair h TI (.ref i1) (.ref i2)
 to:∃a b,IsPair h TO a b
 it1:h.IsListIter i1 l1 i
 it2:h.IsListIter i2 l2 i
 ls1:h.IsList l1 xs
 ls2:h.IsList l2 ys
theorem ZSt.keep {h h':Heap} {z TI TO i1 i2 l1 l2 S:Addr} {xs ys:Array Value} {i:Nat} (x:ZSt h z TI TO i1 i2 l1 l2 S xs ys i) (k:∀b o,b≠S->h.get? b=some o->h'.get? b=some o) (hS:S∉[z,TI,TO,i1,i2,l1,l2]):ZSt h' z TI TO i1 i2 l1 l2 S xs ys i:=by
 have n:∀c∈[z,TI,TO,i1,i2,l1,l2],c≠S:=fun c hc e=>hS (e▸hc)
 refine ⟨?_,k _ _ (n _ (by simp)) x.ti,let ⟨a,b,e⟩:=x.to;⟨a,b,k _ _ (n _ (by simp)) e⟩,x.it1.at fun o e=>k _ o (n _ (by simp)) e,x.it2.at fun o e=>k _ o (n _ (by simp)) e,x.ls1.at fun o e=>k _ o (n _ (by simp)) e,x.ls2.at fun o e=>k _ o (n _ (by simp)) e⟩
 rcases x.zip with ⟨e,q⟩|⟨T,b,oT,q,t,m⟩
 ·exact .inl ⟨e,k _ _ (n _ (by simp)) q⟩
 ·exact .inr ⟨T,b,oT,k _ _ (n _ (by simp)) q,k _ _ (fun e=>m (by simp [e])) t,m⟩
theorem zst_item {z TI TO i1 i2 l1 l2 S:Addr} {i:Nat} {xs ys:Array Value} {x y:Value} {Q:Option Value->Shared->Prop} (D:ZipApart z TI TO i1 i2 l1 l2) (st:ZSt s.heap z TI TO i1 i2 l1 l2 S xs ys i) (hS:S<s.heap.objs.size) (hx:xs[i]?=some x) (hy:ys[i]?=some y)
  (hQ:∀h',ZSt h' z TI TO i1 i2 l1 l2 S xs ys (i+1)->IsPair h' s.heap.objs.size x y->h'.objs.size=s.heap.objs.size+1->(∀c o,c∉[z,TO,i1,i2]->s.heap.get? c=some o->h'.get? c=some o)->Q (some (.ref s.heap.objs.size)) { s with heap:=h' }):
  wpAny (model prog w) A (pyNext (.ref z)) Q E s:=by
 obtain ⟨zp,ti,⟨a,b,to⟩,j1,j2,q1,q2⟩:=st
 have lt:∀{c o},s.heap.get? c=some o->s.heap.objs.size≠c:=fun e=>ne_of_gt (lt_size e)
 have n1:s.heap.objs.size≠i1:=by obtain ⟨_,e,_⟩:=j1;exact lt e
 have n2:s.heap.objs.size≠i2:=by obtain ⟨_,e,_⟩:=j2;exact lt e
 rcases zp with ⟨_,hz⟩|⟨T,b',oT,hz,hT,hm⟩
 ·refine wpAny_pyNext_zip_item D hz ti to j1 j2 q1 q2 hx hy fun h' a1 a2 a3 a4 a5 a6 hk=>?_
  refine hQ h' ⟨.inr ⟨_,false,_,a1,a5,?_⟩,hk _ _ D.TIz D.TITO D.TIi1 D.TIi2 ti,⟨_,_,a2⟩,a3,a4,q1.at fun o e=>hk _ o D.l1z D.l1TO D.l1i1 D.l1i2 e,q2.at fun o e=>hk _ o D.l2z D.l2TO D.l2i1 D.l2i2 e⟩ a5 a6 fun c o hc e=>
   hk c o (fun x=>hc (by simp [x])) (fun x=>hc (by simp [x])) (fun x=>hc (by simp [x])) (fun x=>hc (by simp [x])) e
  simp only [mem_cons,not_mem_nil,or_false,not_or]
  exact ⟨lt hz,lt to,n1,n2,ne_of_gt hS⟩
 ·have hTy:s.TypeIs (.ref z) "zip" := ⟨_,hz,rfl⟩
  unfold pyNext
  refine wpAny_bind (wpAny_attempt (wpAny_callSpecial?_slot (name:=Str.ofString "__next__") hTy PySem.F.slot_zip_next (wpAny_call_entry PySem.F.slot_zip_next hTy PySem.F.entry_zip_next
   (b3L D hz hT ti j1 j2 q1 q2 hx hy fun h' a1 a3 a4 a5 a6 hk=>wpAny_pure ?_) (PySem.F.args_zip_next_1 _))))
  simp only [mem_cons,not_mem_nil,or_false,not_or] at hm
  exact hQ h' ⟨.inr ⟨T,true,oT,a1,hk _ _ hm.1 hm.2.2.1 hm.2.2.2.1 hT,by simp only [mem_cons,not_mem_nil,or_false,not_or];exact hm⟩,hk _ _ D.TIz D.TIi1 D.TIi2 ti,⟨_,_,hk _ _ D.TOz D.TOi1 D.TOi2 to⟩,a3,a4,q1.at fun o e=>hk _ o D.l1z D.l1i1 D.l1i2 e,q2.at fun o e=>hk _ o D.l2z D.l2i1 D.l2i2 e⟩ a5 a6 fun c o hc e=>
   hk c o (fun x=>hc (by simp [x])) (fun x=>hc (by simp [x])) (fun x=>hc (by simp [x])) e
theorem zst_done {z TI TO i1 i2 l1 l2 S:Addr} {i:Nat} {xs ys:Array Value} {Q:Option Value->Shared->Prop} (hh:A.handled=none) (D:ZipApart z TI TO i1 i2 l1 l2) (st:ZSt s.heap z TI TO i1 i2 l1 l2 S xs ys i) (hx:xs[i]?=none)
  (hQ:∀h',(∀c o,c∉[z,TO,i1,i2]->s.heap.get? c=some o->h'.get? c=some o)->Q none { s with heap:=h' }):
  wpAny (model prog w) A (pyNext (.ref z)) Q E s:=by
 obtain ⟨zp,ti,⟨a,b,to⟩,j1,j2,q1,q2⟩:=st
 rcases zp with ⟨_,hz⟩|⟨T,b',oT,hz,hT,hm⟩
 ·exact wpAny_pyNext_zip_end hh D hz ti to j1 j2 q1 q2 (.inl hx) fun h' hk=>hQ h' fun c o hc e=>hk c o (fun x=>hc (by simp [x])) (fun x=>hc (by simp [x])) (fun x=>hc (by simp [x])) (fun x=>hc (by simp [x])) e
 ·have hTy:s.TypeIs (.ref z) "zip" := ⟨_,hz,rfl⟩
  unfold pyNext
  refine wpAny_bind (wpAny_attempt (wpAny_callSpecial?_slot (name:=Str.ofString "__next__") hTy PySem.F.slot_zip_next (wpAny_call_entry PySem.F.slot_zip_next hTy PySem.F.entry_zip_next
   (zipB_end hh D hz hT ti j1 q1 hx fun h' e hk he=>?_) (PySem.F.args_zip_next_1 _))))
  obtain ⟨o,ho,hc⟩:=he
  refine wpAny_bind (wpAny_isInstance (T := "StopIteration") (b:=true) ⟨o,ho,hc⟩ isSubtype_stop ?_)
  exact wpAny_pure (hQ _ fun c o hc e=>hk c o (fun x=>hc (by simp [x])) (fun x=>hc (by simp [x])) e)
structure ZG (xs ys:Array Value) (lo:Addr) (h:Heap) (ts:List Addr):Prop where
 rise:ts.Pairwise (· < ·)
 above:∀a∈ts,lo<a
 pairs:∀(j:Nat) (a:Addr),ts[j]?=some a->∃x y,xs[j]?=some x/\ys[j]?=some y/\IsPair h a x y
theorem zst_loop {R:Result->Shared->Prop} {z TI TO i1 i2 l1 l2 S:Addr} {xs ys:Array Value} (hh:A.handled=none) (D:ZipApart z TI TO i1 i2 l1 l2) (hS:S∉[z,TI,TO,i1,i2,l1,l2]) (hxy:xs.size=ys.size) (hn:xs.size<=sizeLine) (res:Value) {h₁:Heap}
  (lo:Addr) (hlo:∀c∈[z,TO,i1,i2,S],c<=lo)
  (hR:∀h' tk acc c ts,(∀b o,b∉[z,TO,i1,i2,S]->h₁.get? b=some o->h'.get? b=some o)->h'.get? S=some { cls:=.type "list",dict:=none,data:=.seq acc c,slots:=#[] }->ts.length=xs.size->ZG xs ys lo h' ts->
   acc.toList=ts.map Value.ref->R (.ok (.ret res)) { s with heap:=h',toks:=tk }):
  ∀(k i:Nat) (h:Heap) (tk c:Nat) (acc:Array Value) (ts:List Addr),xs.size - i=k->i<=xs.size->ZSt h z TI TO i1 i2 l1 l2 S xs ys i->(∀b o,b∉[z,TO,i1,i2,S]->h₁.get? b=some o->h.get? b=some o)->
   h.get? S=some { cls:=.type "list",dict:=none,data:=.seq acc c,slots:=#[] }->acc.toList=ts.map Value.ref->ts.length=i->ZG xs ys lo h ts->lo<h.objs.size->
   codeAny (model prog w) A (.builtin "list.extend.loop" ⟨[.ref S,.ref z,res],[]⟩) R { s with heap:=h,toks:=tk }:=by
 have nS:∀c∈[z,TI,TO,i1,i2,l1,l2],c≠S:=fun c hc e=>hS (e▸hc)
 have hSw:S∉[z,TO,i1,i2]:=fun hm=>hS (by simp at hm ⊢;rcases hm with e|e|e|e <;> simp [e])
 have gm:∀{h h':Heap} {ts:List Addr},ZG xs ys lo h ts->(∀b o,b∉[z,TO,i1,i2,S]->h.get? b=some o->h'.get? b=some o)->ZG xs ys lo h' ts:=fun g k=>⟨g.rise,g.above,fun j a hj=>by
  obtain ⟨x,y,e1,e2,e3⟩:=g.pairs j a hj
  exact ⟨x,y,e1,e2,k _ _ (fun hm=>absurd (lt_of_lt_of_le (g.above a (mem_of_getElem? hj)) (hlo a hm)) (lt_irrefl _)) e3⟩⟩
 have sub:∀b,b∉[z,TO,i1,i2,S]->b∉[z,TO,i1,i2]/\b≠S:=fun b hb=>by
  simp only [mem_cons,not_mem_nil,or_false,not_or] at hb ⊢
  exact ⟨⟨hb.1,hb.2.1,hb.2.2.1,hb.2.2.2.1⟩,hb.2.2.2.2⟩
 intro k
 induction k with
 | zero=>
  intro i h tk c acc ts hk hi hst hkeep hSS hacc hal hG hlt
  refine codeAny_builtin PySem.F.entry_extend_loop ?_
  rw [Around.under_plainId PySem.F.plain_extend_loop _]
  show wpAny _ A.in1 (pyNext (.ref z) >>= _) _ _ _
  refine wpAny_bind (zst_done (s:={ s with heap:=h,toks:=tk }) (A:=A.in1) hh D hst (Array.getElem?_eq_none (by omega)) fun h' he=>?_)
  exact wpAny_pure (hR h' tk acc c ts (fun b o hb e=>he b o (sub b hb).1 (hkeep b o hb e)) (he S _ hSw hSS) (by omega) (gm hG fun b o hb e=>he b o (sub b hb).1 e) hacc)
 | succ k ih=>
  intro i h tk c acc ts hk hi hst hkeep hSS hacc hal hG hlt
  have hix:i<xs.size:=by omega
  have hiy:i<ys.size:=by omega
  have hsz:acc.size=i:=by rw [←length_toList,hacc,length_map,hal]
  refine codeAny_builtin PySem.F.entry_extend_loop ?_
  rw [Around.under_plainId PySem.F.plain_extend_loop _]
  show wpAny _ A.in1 (pyNext (.ref z) >>= _) _ _ _
  refine wpAny_bind (zst_item (s:={ s with heap:=h,toks:=tk }) (A:=A.in1) D hst (lt_size hSS) (Array.getElem?_eq_getElem hix) (Array.getElem?_eq_getElem hiy) fun h' hst' hp hz' he=>?_)
  have hSS':=he S _ hSw hSS
  have hlS:h.objs.size≠S:=ne_of_gt (lt_size hSS)
  show wpAny _ A.in1 (updateSeq S (·.push (.ref h.objs.size)) >>= _) _ _ _
  refine wpAny_bind ?_
  have oth:∀b o,b≠S->h'.get? b=some o->(h'.update S (Obj.mapSeq (·.push (.ref h.objs.size)))).get? b=some o:=fun b o hb e=>(get?_update_other _ _ (Ne.symm hb)).trans e
  refine wpAny_updateSeq hSS' rfl (wpAny_pure ⟨plainId_quiet PySem.F.plain_extend_loop _,ih (i+1) _ tk _ (acc.push (.ref h.objs.size)) (ts++[h.objs.size]) (by omega) hix (hst'.keep oth hS) (fun b o hb e=>oth b o (sub b hb).2 (he b o (sub b hb).1 (hkeep b o hb e))) (get?_update_self _ hSS' rfl)
   (by rw [Array.toList_push,hacc,map_append];rfl) (by rw [length_append,hal];rfl) ?_ ?_⟩) (by rw [hsz];omega) (by show (acc.push _).size<=sizeLine+1;rw [Array.size_push,hsz];omega)
  ·refine ⟨List.pairwise_append.mpr ⟨hG.rise,List.pairwise_singleton _ _,fun a ha b hb=>?_⟩,fun a ha=>?_,fun j a hj=>?_⟩
   ·rw [mem_singleton.mp hb]
    obtain ⟨j,hj⟩:=List.mem_iff_getElem?.mp ha
    obtain ⟨_,_,_,_,e⟩:=hG.pairs j a hj
    exact lt_size e
   ·rcases mem_append.mp ha with z1|z1
    ·exact hG.above a z1
    ·rw [mem_singleton.mp z1];exact hlt
   ·by_cases hjl:j<ts.length
    ·rw [getElem?_append_left hjl] at hj
     obtain ⟨x,y,e1,e2,e3⟩:=hG.pairs j a hj
     have hm:a∉[z,TO,i1,i2,S]:=fun hm=>absurd (lt_of_lt_of_le (hG.above a (mem_of_getElem? hj)) (hlo a hm)) (lt_irrefl _)
     exact ⟨x,y,e1,e2,oth _ _ (sub a hm).2 (he _ _ (sub a hm).1 e3)⟩
    ·rw [getElem?_append_right (by omega)] at hj
     have hj0:j - ts.length=0:=by
      cases q:j - ts.length with
      | zero=>rfl
      | succ m=>rw [q] at hj;simp at hj
     rw [hj0] at hj
     simp at hj
     subst hj
     have hji:j=i:=by omega
     subst hji
     exact ⟨_,_,Array.getElem?_eq_getElem hix,Array.getElem?_eq_getElem hiy,oth _ _ hlS hp⟩
  ·have e1:(h'.update S (Obj.mapSeq (·.push (.ref h.objs.size)))).objs.size=h'.objs.size:=(Heap.SameBut.update ..).1
   rw [e1,hz']
   exact lt_succ_of_lt hlt
theorem zip_len:typeLookup (.type "zip") "__len__" = pure none:=by rw [typeLookup_type,builtinLookup_eq_fast];kernel_rfl
theorem zip_hint:typeLookup (.type "zip") "__length_hint__" = pure none:=by rw [typeLookup_type,builtinLookup_eq_fast];kernel_rfl
theorem hint_zip {z:Addr} (hT:s.TypeIs (.ref z) "zip") {Q:Bool->Shared->Prop} (h:Q true s):wpAny (model prog w) A (Builtin.List.listLengthHint (.ref z)) Q E s:=by
 unfold Builtin.List.listLengthHint
 refine wpAny_bind (wpAny_specialOf hT zip_len ?_)
 show wpAny _ A (specialOf (Value.ref z) (Str.ofString "__length_hint__") >>= _) _ _ _
 refine wpAny_bind (wpAny_specialOf hT zip_hint ?_)
 exact wpAny_pure h
theorem b0u {z TI TO i1 i2 l1 l2:Addr} {xs ys:Array Value} {Q:Value->Shared->Prop} (hh:A.handled=none) (D:ZipApart z TI TO i1 i2 l1 l2) (hz:IsZip s.heap z TI TO .none) (ti:IsPair s.heap TI (.ref i1) (.ref i2)) (to:IsPair s.heap TO .none .none)
  (j1:s.heap.IsListIter i1 l1 0) (j2:s.heap.IsListIter i2 l2 0) (q1:s.heap.IsList l1 xs) (q2:s.heap.IsList l2 ys) (hxy:xs.size=ys.size) (hn:xs.size<=sizeLine)
  (h:∀(h':Heap) (tk:Nat) (acc:Array Value) (c:Nat) (ts:List Addr),(∀b o,b∉[z,TO,i1,i2]->s.heap.get? b=some o->h'.get? b=some o)->h'.get? s.heap.objs.size=some { cls:=.type "list",data:=.seq acc c }->ts.length=xs.size->ZG xs ys s.heap.objs.size h' ts->acc.toList=ts.map Value.ref->
   Q (.ref s.heap.objs.size) { s with heap:=h',toks:=tk }):
  wpAny (model prog w) A (call (.type "list") [.ref z]) Q E s:=by
 have lz:z<s.heap.objs.size:=lt_size hz
 have lTI:TI<s.heap.objs.size:=lt_size ti
 have lTO:TO<s.heap.objs.size:=lt_size to
 have li1:i1<s.heap.objs.size:=by obtain ⟨_,e,_⟩:=j1;exact lt_size e
 have li2:i2<s.heap.objs.size:=by obtain ⟨_,e,_⟩:=j2;exact lt_size e
 have ll1:l1<s.heap.objs.size:=by obtain ⟨_,e,_⟩:=q1;exact lt_size e
 have ll2:l2<s.heap.objs.size:=by obtain ⟨_,e,_⟩:=q2;exact lt_size e
 have hSf:s.heap.objs.size∉[z,TI,TO,i1,i2,l1,l2]:=by
  simp only [mem_cons,not_mem_nil,or_false,not_or]
  exact ⟨ne_of_gt lz,ne_of_gt lTI,ne_of_gt lTO,ne_of_gt li1,ne_of_gt li2,ne_of_gt ll1,ne_of_gt ll2⟩
 refine callType_codes (Q₁:=fun ob s1=>ob=.ref s.heap.objs.size/\s1={ s with heap:=s.heap.push { cls:=.type "list",data:=.seq #[] } }) PySem.F.called_list (PySem.F.typeCall_list_1 _) PySem.F.entry_list_init (code_list_new _ ⟨rfl,rfl⟩) fun ob s1 h1=>?_
 obtain ⟨rfl,rfl⟩:=h1
 have hS0:(s.heap.push { cls:=.type "list",data:=.seq #[] }).get? s.heap.objs.size=some { cls:=.type "list",data:=.seq #[] }:=get?_push_size _ rfl
 refine ⟨⟨_,hS0,rfl⟩,PySem.F.args_list_init_2 _ _,?_⟩
 have kp:∀b o,s.heap.get? b=some o->(s.heap.push { cls:=.type "list",data:=.seq #[] }).get? b=some o:=fun b o e=>get?_push_of_some _ e
 have gsz:(s.heap.push { cls:=.type "list",data:=.seq #[] }).objs.size=s.heap.objs.size+1:=size_push ..
 generalize s.heap.push { cls:=.type "list",data:=.seq #[] }=g at hS0 kp gsz
 have st0:∀h1:Heap,(∀b o,b≠s.heap.objs.size->g.get? b=some o->h1.get? b=some o)->ZSt h1 z TI TO i1 i2 l1 l2 s.heap.objs.size xs ys 0:=fun h1 k1=>by
  have k:∀b o,s.heap.get? b=some o->h1.get? b=some o:=fun b o e=>k1 b o (ne_of_lt (lt_size e)) (kp b o e)
  exact ⟨.inl ⟨rfl,k _ _ hz⟩,k _ _ ti,⟨_,_,k _ _ to⟩,j1.at fun o e=>k _ o e,j2.at fun o e=>k _ o e,q1.at fun o e=>k _ o e,q2.at fun o e=>k _ o e⟩
 have loop:∀(h1:Heap) (c1:Nat),(∀b o,b≠s.heap.objs.size->g.get? b=some o->h1.get? b=some o)->h1.objs.size=g.objs.size->h1.get? s.heap.objs.size=some { cls:=.type "list",data:=.seq #[] c1 }->
   codeAny (model prog w) A.in1 (.builtin "list.extend.loop" ⟨[.ref s.heap.objs.size,.ref z,.none],[]⟩) (fun r s'=>r=.ok (.ret .none)/\Q (.ref s.heap.objs.size) s') { s with heap:=h1 }:=fun h1 c1 k1 z1 e1=>by
  refine zst_loop (s:=s) (A:=A.in1) (h₁:=h1) hh D hSf hxy hn .none s.heap.objs.size (fun c hc=>?_) (fun h' tk acc c ts hk hS hl hG ha=>⟨rfl,h h' tk acc c ts (fun b o hb e=>hk b o (fun hm=>?_) (k1 b o (ne_of_lt (lt_size e)) (kp b o e))) hS hl hG ha⟩) xs.size 0 h1 s.toks c1 #[] [] rfl (zero_le _) (st0 h1 k1) (fun _ _ _ e=>e) e1 rfl rfl ⟨.nil,fun _ hm=>(nomatch hm),fun j a hj=>by simp at hj⟩ (by rw [z1,gsz];exact lt_succ_self _)
  ·simp only [mem_cons,not_mem_nil,or_false] at hc
   rcases hc with rfl|rfl|rfl|rfl|rfl
   ·exact le_of_lt lz
   ·exact le_of_lt lTO
   ·exact le_of_lt li1
   ·exact le_of_lt li2
   ·exact le_refl _
  ·simp only [mem_cons,not_mem_nil,or_false,not_or] at hm hb
   rcases hm with e'|e'|e'|e'|e'
   ·exact hb.1 e'
   ·exact hb.2.1 e'
   ·exact hb.2.2.1 e'
   ·exact hb.2.2.2 e'
   ·exact absurd (lt_size e) (by rw [e'];exact lt_irrefl _)
 show wpAny _ _ (do let old ←Builtin.List.listItems (.ref s.heap.objs.size);Builtin.List.listUpdate (.ref s.heap.objs.size) (fun _=>#[]);letGo old.toList.reverse;Builtin.List.listExtendWith (.ref s.heap.objs.size) (.ref z) .none) _ _ _
 refine wpAny_bind (listItems_at hS0 rfl (wpAny_bind (listUpdate_at hS0 rfl ?_ (zero_le _) (zero_le _))))
 have hS1:=get?_update_self (Obj.mapSeq (fun _=>(#[]:Array Value))) hS0 rfl
 have o1:∀b o,b≠s.heap.objs.size->g.get? b=some o->(g.update s.heap.objs.size (Obj.mapSeq (fun _=>(#[]:Array Value)))).get? b=some o:=fun b o hb e=>(get?_update_other _ _ (Ne.symm hb)).trans e
 have z1:(g.update s.heap.objs.size (Obj.mapSeq (fun _=>(#[]:Array Value)))).objs.size=g.objs.size:=(Heap.SameBut.update ..).1
 generalize g.update s.heap.objs.size (Obj.mapSeq (fun _=>(#[]:Array Value)))=g1 at hS1 o1 z1
 refine wpAny_bind (wpAny_letGo ?_)
 unfold Builtin.List.listExtendWith
 have hz1:IsZip g1 z TI TO .none:=o1 _ _ (ne_of_lt lz) (kp _ _ hz)
 have hT:Shared.TypeIs { s with heap:=g1 } (.ref z) "zip" := ⟨_,hz1,rfl⟩
 refine wpAny_bind (wpAny_typeOf hT ?_)
 have n1:Builtin.List.listSameRef (.ref s.heap.objs.size) (.ref z)=false:=by simp [Builtin.List.listSameRef,ne_of_gt lz]
 have n2:(Value.type "zip" == Value.type "list")=false:=by decide
 have n3:(Value.type "zip" == Value.type "tuple")=false:=by decide
 simp only [n1,n2,n3,Bool.or_false,false_eq_true,if_false]
 refine wpAny_bind (wpAny_pyIter_zip (s:={ s with heap:=g1 }) hz1 (wpAny_bind (wpAny_holding (hint_zip hT ?_))))
 show wpAny _ A.in1.in1 (rule "list.extend.makes-room" >>= fun _=>Builtin.List.listTouch (.ref s.heap.objs.size) >>= fun _=>again (.builtin "list.extend.loop" ⟨[.ref s.heap.objs.size,.ref z,.none],[]⟩)) _ _ _
 refine wpAny_bind (wpAny_rule (wpAny_bind ?_))
 show wpAny _ A.in1.in1 (updateSeq s.heap.objs.size (·.push .none) >>= fun _=>updateSeq s.heap.objs.size (·.pop)) _ _ _
 refine wpAny_bind (wpAny_updateSeq hS1 rfl ?_)
 have hS2:=get?_update_self (Obj.mapSeq (·.push Value.none)) hS1 rfl
 refine wpAny_updateSeq hS2 rfl ?_
 have hS3:=get?_update_self (Obj.mapSeq (·.pop)) hS2 rfl
 have oth:∀b o,b≠s.heap.objs.size->g.get? b=some o->((g1.update s.heap.objs.size (Obj.mapSeq (·.push Value.none))).update s.heap.objs.size (Obj.mapSeq (·.pop))).get? b=some o:=
  fun b o hb e=>(get?_update_other _ _ (Ne.symm hb)).trans ((get?_update_other _ _ (Ne.symm hb)).trans (o1 b o hb e))
 have z3:((g1.update s.heap.objs.size (Obj.mapSeq (·.push Value.none))).update s.heap.objs.size (Obj.mapSeq (·.pop))).objs.size=g.objs.size:=by rw [(Heap.SameBut.update ..).1,(Heap.SameBut.update ..).1,z1]
 refine wpAny_pure ⟨plainId_quiet PySem.F.plain_extend_loop _,?_⟩
 exact codeAny_mono (loop _ _ oth z3 hS3) fun r s' ⟨er,q⟩=>by subst er;exact ⟨rfl,q⟩
end
theorem b5S:bootBuiltins "zip" = some (.type "zip"):=by decide +kernel
theorem b3C:bootBuiltins "list" = some (.type "list"):=by decide +kernel
def a3Z (tp:List (Addr×List V)) (H:Hp):Hp:=fun b=>match tp.lookup b with
 | some p=>some (.tup p)
 | none=>H b
theorem a5j {α:Type}:∀{l:List (Addr×α)} {n:Addr},(∀p∈l,p.1≠n)->l.lookup n=none
 | [],_,_=>rfl
 | (k,v)::r,n,h=>by
  rw [lookup_cons,beq_false_of_ne (Ne.symm (h (k,v) mem_cons_self))]
  exact a5j fun p hp=>h p (mem_cons_of_mem _ hp)
theorem a55 {α:Type} {c:α}:∀{ts:List Addr} {ps:List α} {j:Nat} {t:Addr},ts.Nodup->ts[j]?=some t->ps[j]?=some c->(ts.zip ps).lookup t=some c
 | [],_,_,_,_,h,_=>by simp at h
 | _::_,[],_,_,_,_,h=>by simp at h
 | f::ts,d::ps,0,t,nd,h1,h2=>by
  simp at h1 h2;subst h1;subst h2
  simp [lookup_cons]
 | f::ts,d::ps,j+1,t,nd,h1,h2=>by
  have h1':ts[j]?=some t:=by simpa using h1
  have ne:(t == f)=false:=beq_false_of_ne (by rintro rfl;exact (nodup_cons.mp nd).1 (mem_of_getElem? h1'))
  rw [zip_cons_cons,lookup_cons,ne]
  exact a55 (nodup_cons.mp nd).2 h1' (by simpa using h2)
def tLZ (K:Frag) (ta:TA):TE:=fun σ H Q=>ta σ H fun vs H1=>∃(l1 l2:Addr) (xs ys:List V),vs=[.ref l1,.ref l2]/\SqL K H1 l1 xs/\SqL K H1 l2 ys/\xs.length=ys.length/\
 ∀(ts:List Addr) (S:Addr),ts.length=xs.length->ts.Nodup->(∀t∈ts,H1 t=none/\t≠S)->H1 S=none->Q (.ref S) (upd (a3Z (ts.zip (zipWith (fun a b=>[a,b]) xs ys)) H1) S (.lst (ts.map V.ref)))
theorem b4l:∀(ts:List Addr),Vals (ts.map V.ref) (ts.map Value.ref)
 | []=>.nil
 | t::ts=>.cons rfl (b4l ts)
section
variable {X:Cx}
theorem b2Q {a b:Expr} {ta:TA} {p p' pos' pos:Pos} (hc:X.calm=true) (hg:Gl X "list") (hm:X.mg "list" = none) (hg2:Gl X "zip") (hm2:X.mg "zip" = none) (ha:PA X [a,b] ta)
  (hs:starEach [a,b] X.env=[(false,eval a X.env),(false,eval b X.env)]:=by rfl) (hs2:starEach [b] X.env=[(false,eval b X.env)]:=by rfl)
  (hs3:starEach [.Call (.Name "zip" p') [a,b] [] pos'] X.env=(false,eval (.Call (.Name "zip" p') [a,b] [] pos') X.env)::starEach [] X.env:=by rfl) (hpl2:(backTo pos (starEach [] X.env)).any (·.1)=false:=by rfl):
  PE X (.Call (.Name "list" p) [.Call (.Name "zip" p') [a,b] [] pos'] [] pos) (tLZ X.K ta):=by
 intro pins s σ H Q I h
 refine wpAny_Call_Name_kw (a7t I hg hm b3C (PyProof.Rows.callWith_type1 ?_ hs3 hpl2) (by decide) (by decide))
 rw [hs3]
 show wpAny _ _ (spliced ((false,eval (.Call (.Name "zip" p') [a,b] [] pos') X.env)::backTo pos (starEach [] X.env))) _ _ s
 refine Calls.spliced_cons (wpAny_Call_Name_kw (a7t I hg2 hm2 b5S (PyProof.Rows.callWith_type1 (thn (ha pos' pins s σ H _ I h) fun us s1 ⟨vs,H1,I1,r1,l1,l2,xs,ys,e,q1,q2,hxy,q⟩=>?_) (by rw [hs,hs2]) (by rw [hs2];rfl)) (by decide) (by decide)))
 subst e
 obtain ⟨u,w',rfl,r1,r2⟩:=vals2 r1
 cases r1
 cases r2
 obtain ⟨t1,v1,p1,z1⟩:=I1.list q1
 obtain ⟨t2,v2,p2,z2⟩:=I1.list q2
 have lt1:l1<s1.heap.objs.size:=by obtain ⟨_,e,_⟩:=p1.isList;exact lt_size e
 have lt2:l2<s1.heap.objs.size:=by obtain ⟨_,e,_⟩:=p2.isList;exact lt_size e
 refine call_zip_2 p1.isList p2.isList fun h' hz ti to j1 j2 hsz kp=>?_
 have D:ZipApart (s1.heap.objs.size+4) (s1.heap.objs.size+2) (s1.heap.objs.size+3) s1.heap.objs.size (s1.heap.objs.size+1) l1 l2:=zipApart_new lt1 lt2
 refine Calls.spliced_nil ?_
 refine b0u (s:={ s1 with heap:=h' }) (I1.ok.hd hc) D hz ti to j1 j2 (p1.isList.at fun o e=>kp _ o e) (p2.isList.at fun o e=>kp _ o e) (by rw [size_toArray,size_toArray,←v1.length,←v2.length,hxy]) (by rw [size_toArray,←v1.length];exact z1) fun h2 tk acc c ts hk hS hl hG hacc=>?_
 have hS:h2.get? h'.objs.size=some { cls:=.type "list",data:=.seq acc c }:=hS
 have hG:ZG t1.toArray t2.toArray h'.objs.size h2 ts:=hG
 have hk:∀b o,b∉[s1.heap.objs.size+4,s1.heap.objs.size+3,s1.heap.objs.size,s1.heap.objs.size+1]->h'.get? b=some o->h2.get? b=some o:=hk
 have old:∀b o,s1.heap.get? b=some o->h2.get? b=some o:=fun b o e=>hk b o (fun hm=>by
  have hb:=lt_size e
  simp only [mem_cons,not_mem_nil,or_false] at hm
  rcases hm with rfl|rfl|rfl|rfl
  ·exact absurd hb (Nat.not_lt.mpr (le_add_right _ _))
  ·exact absurd hb (Nat.not_lt.mpr (le_add_right _ _))
  ·exact absurd hb (lt_irrefl _)
  ·exact absurd hb (Nat.not_lt.mpr (le_add_right _ _))) (kp b o e)
 have big:s1.heap.objs.size<=h'.objs.size:=by rw [hsz];exact le_add_right _ _
 have tbig:∀t∈ts,s1.heap.objs.size<=t:=fun t ht=>le_trans big (le_of_lt (hG.above t ht))
 have fS:H1 h'.objs.size=none:=I1.hok.fresh big
 have fT:∀t∈ts,H1 t=none/\t≠h'.objs.size:=fun t ht=>⟨I1.hok.fresh (tbig t ht),ne_of_gt (hG.above t ht)⟩
 have nd:ts.Nodup:=hG.rise.imp fun h=>ne_of_lt h
 have hl':ts.length=xs.length:=by rw [hl,size_toArray,v1.length]
 have nl:∀b,b∉ts->(ts.zip (zipWith (fun a b=>[a,b]) xs ys)).lookup b=none:=fun b hb=>a5j fun p hp e=>hb (e▸(of_mem_zip (show (p.1,p.2)∈_ from hp)).1)
 have at0:∀b,b∉ts->b≠h'.objs.size->upd (a3Z (ts.zip (zipWith (fun a b=>[a,b]) xs ys)) H1) h'.objs.size (.lst (ts.map V.ref)) b=H1 b:=fun b h1 h2=>by
  rw [a0S h2];unfold a3Z;rw [nl b h1]
 have sm:Same H1 (upd (a3Z (ts.zip (zipWith (fun a b=>[a,b]) xs ys)) H1) h'.objs.size (.lst (ts.map V.ref))):=fun b o e=>by
  rw [at0 b (fun hb=>by rw [(fT b hb).1] at e;cases e) (fun hb=>by rw [hb,fS] at e;cases e)];exact e
 have hok:HOk X.prog X.w (upd (a3Z (ts.zip (zipWith (fun a b=>[a,b]) xs ys)) H1) h'.objs.size (.lst (ts.map V.ref))) h2:=fun b o e=>by
  by_cases hb:b=h'.objs.size
  ·subst hb
   rw [a0W] at e;cases e
   refine ⟨by rw [length_map,hl'];exact z1,ts.map Value.ref,c,b4l ts,?_⟩
   rw [hS,←hacc]
  ·by_cases hbt:b∈ts
   ·obtain ⟨j,hj⟩:=List.mem_iff_getElem?.mp hbt
    obtain ⟨x,y,e1,e2,e3⟩:=hG.pairs j b hj
    have e1:t1[j]?=some x:=by simpa using e1
    have e2:t2[j]?=some y:=by simpa using e2
    have hjx:j<xs.length:=by rw [v1.length];exact (List.getElem?_eq_some_iff.mp e1).1
    have hjy:j<ys.length:=by rw [←hxy];exact hjx
    obtain ⟨u1,f1,g1⟩:=v1.get (getElem?_eq_getElem hjx)
    obtain ⟨u2,f2,g2⟩:=v2.get (getElem?_eq_getElem hjy)
    rw [e1] at f1;cases f1
    rw [e2] at f2;cases f2
    have lk:(ts.zip (zipWith (fun a b=>[a,b]) xs ys)).lookup b=some [xs[j],ys[j]]:=a55 nd hj (by rw [List.getElem?_zipWith,getElem?_eq_getElem hjx,getElem?_eq_getElem hjy])
    rw [a0S hb] at e
    unfold a3Z at e
    rw [lk] at e
    cases e
    exact ⟨by show (2:Nat)<=sizeLine;decide,[x,y],.cons g1 (.cons g2 .nil),⟨_,e3,rfl,_,rfl⟩⟩
   ·rw [at0 b hbt hb] at e
    exact (I1.hok b o e).stay (fun d v _ z=>old d v z) (fun d z=>sm _ _ z) (fun d ws z=>sm _ _ z) fun d ob v z=>sm _ _ z
 have I2:Inv X pins σ (upd (a3Z (ts.zip (zipWith (fun a b=>[a,b]) xs ys)) H1) h'.objs.size (.lst (ts.map V.ref))) { s1 with heap:=h2,toks:=tk }:=I1.un (t':=tk) ⟨fun b o e _ _ _=>old b o e,fun b o e _ _ _=>⟨o.slots,old b o e⟩,fun b o e n _=>by
   have hb:=lt_size e
   rw [at0 b (fun hm=>absurd (lt_of_lt_of_le hb (tbig b hm)) (lt_irrefl _)) (fun hm=>absurd (lt_of_lt_of_le hb (hm▸big)) (lt_irrefl _))];exact n,fun b o e _=>⟨o,old b o e⟩,fun b ws e=>sm _ _ e,fun b o z e=>sm _ _ e,fun b ps e=>⟨#[],by rw [sm _ _ e];simp⟩⟩ hok
 exact ⟨.ref h'.objs.size,_,I2,rfl,q ts h'.objs.size hl' nd fT fS⟩
end
end L2
namespace L3
open PySem PySem.Spec PyProof.Rows L2
structure Ct where
 K:Frag
 cls:String->Addr
 clo:Nat->Hp->Addr->List V->Prop
 cloM:∀{k:Nat} {H H':Hp} {a:Addr} {xs:List V},Same H H'->clo k H a xs->clo k H' a xs
 tb:Hp
def ctOf (K:Frag) (cls:String->Addr):Ct:=⟨K,cls,fun _ _ _ _=>False,fun _ h=>h,fun _=>none⟩
mutual
def Rep (Γ:Ct) (H:Hp):D->V->Prop
 | .non,v=>v=.non
 | .bl b,v=>v=.bl b
 | .int i,v=>v=.int i
 | .str x,v=>v=.str x
 | .tup ds,v=>∃a xs,v=.ref a/\SqT Γ.K H a xs/\RepL Γ H ds xs
 | .lst ds,v=>∃a xs,v=.ref a/\SqL Γ.K H a xs/\RepL Γ H ds xs
 | .obj c ns ds,v=>∃a dx xs,v=.ref a/\H a=some (.ins (Γ.cls c) dx (ns.zip xs))/\RepL Γ H ds xs
 | .fn k ds,v=>∃a xs,v=.ref a/\Γ.clo k H a xs/\RepL Γ H ds xs
def RepL (Γ:Ct) (H:Hp):List D->List V->Prop
 | [],xs=>xs=[]
 | d::ds,xs=>∃x r,xs=x::r/\Rep Γ H d x/\RepL Γ H ds r
end
theorem a1E {K:Frag} {H H':Hp} {a:Addr} {xs:List V} (e:Same H H') (h:SqT K H a xs):SqT K H' a xs:=by
 rcases h with (h|⟨o,h⟩)|h
 ·exact .inl (.inl (e _ _ h))
 ·exact .inl (.inr ⟨o,e _ _ h⟩)
 ·exact .inr h
mutual
theorem Rep.mono {Γ:Ct} {H H':Hp} (e:Same H H'):∀{d:D} {v:V},Rep Γ H d v->Rep Γ H' d v
 | .non,_,r=>by unfold Rep at r ⊢;exact r
 | .bl _,_,r=>by unfold Rep at r ⊢;exact r
 | .int _,_,r=>by unfold Rep at r ⊢;exact r
 | .str _,_,r=>by unfold Rep at r ⊢;exact r
 | .tup ds,_,r=>by
  unfold Rep at r ⊢
  obtain ⟨a,xs,e1,q,r⟩:=r
  exact ⟨a,xs,e1,a1E e q,RepL.mono e r⟩
 | .lst ds,_,r=>by
  unfold Rep at r ⊢
  obtain ⟨a,xs,e1,q,r⟩:=r
  exact ⟨a,xs,e1,Same.seq e q,RepL.mono e r⟩
 | .obj c ns ds,_,r=>by
  unfold Rep at r ⊢
  obtain ⟨a,dx,xs,e1,q,r⟩:=r
  exact ⟨a,dx,xs,e1,e _ _ q,RepL.mono e r⟩
 | .fn k ds,_,r=>by
  unfold Rep at r ⊢
  obtain ⟨a,xs,e1,q,r⟩:=r
  exact ⟨a,xs,e1,Γ.cloM e q,RepL.mono e r⟩
theorem RepL.mono {Γ:Ct} {H H':Hp} (e:Same H H'):∀{ds:List D} {xs:List V},RepL Γ H ds xs->RepL Γ H' ds xs
 | [],_,r=>by unfold RepL at r ⊢;exact r
 | d::ds,_,r=>by
  unfold RepL at r ⊢
  obtain ⟨x,r',e1,q,r2⟩:=r
  exact ⟨x,r',e1,Rep.mono e q,RepL.mono e r2⟩
end
section
variable {Γ:Ct} {H H':Hp}
theorem a1H {v:V}:Rep Γ H .non v↔v=.non:=by unfold Rep;exact Iff.rfl
theorem a0H {b:Bool} {v:V}:Rep Γ H (.bl b) v↔v=.bl b:=by unfold Rep;exact Iff.rfl
theorem a0o {i:Int} {v:V}:Rep Γ H (.int i) v↔v=.int i:=by unfold Rep;exact Iff.rfl
theorem a1l {x:Str} {v:V}:Rep Γ H (.str x) v↔v=.str x:=by unfold Rep;exact Iff.rfl
theorem a1G {ds:List D} {v:V}:Rep Γ H (.tup ds) v↔∃a xs,v=.ref a/\SqT Γ.K H a xs/\RepL Γ H ds xs:=by
 constructor
 ·intro h;unfold Rep at h;exact h
 ·intro h;unfold Rep;exact h
theorem a1x {ds:List D} {v:V}:Rep Γ H (.lst ds) v↔∃a xs,v=.ref a/\SqL Γ.K H a xs/\RepL Γ H ds xs:=by
 constructor
 ·intro h;unfold Rep at h;exact h
 ·intro h;unfold Rep;exact h
theorem a6F {c:String} {ns:List Str} {ds:List D} {v:V}:Rep Γ H (.obj c ns ds) v↔∃a dx xs,v=.ref a/\H a=some (.ins (Γ.cls c) dx (ns.zip xs))/\RepL Γ H ds xs:=by
 constructor
 ·intro h;unfold Rep at h;exact h
 ·intro h;unfold Rep;exact h
theorem a9F {k:Nat} {ds:List D} {v:V}:Rep Γ H (.fn k ds) v↔∃a xs,v=.ref a/\Γ.clo k H a xs/\RepL Γ H ds xs:=by
 constructor
 ·intro h;unfold Rep at h;exact h
 ·intro h;unfold Rep;exact h
theorem a2x {xs:List V}:RepL Γ H [] xs↔xs=[]:=by unfold RepL;exact Iff.rfl
theorem a00 {d:D} {ds:List D} {xs:List V}:RepL Γ H (d::ds) xs↔∃x r,xs=x::r/\Rep Γ H d x/\RepL Γ H ds r:=by
 constructor
 ·intro h;unfold RepL at h;exact h
 ·intro h;unfold RepL;exact h
theorem RepL.nil:RepL Γ H [] []:=a2x.mpr rfl
theorem RepL.cons {d:D} {ds:List D} {x:V} {xs:List V} (h:Rep Γ H d x) (t:RepL Γ H ds xs):RepL Γ H (d::ds) (x::xs):=a00.mpr ⟨x,xs,rfl,h,t⟩
theorem RepL.length:∀{ds:List D} {xs:List V},RepL Γ H ds xs->ds.length=xs.length
 | [],xs,h=>by rw [a2x.mp h];rfl
 | d::ds,xs,h=>by
  obtain ⟨x,r,e,_,t⟩:=a00.mp h
  rw [e,length_cons,length_cons,RepL.length t]
theorem RepL.append:∀{ds es:List D} {xs ys:List V},RepL Γ H ds xs->RepL Γ H es ys->RepL Γ H (ds++es) (xs++ys)
 | [],es,xs,ys,h,h'=>by rw [a2x.mp h];exact h'
 | d::ds,es,xs,ys,h,h'=>by
  obtain ⟨x,r,e,q,t⟩:=a00.mp h
  rw [e]
  exact .cons q (RepL.append t h')
theorem RepL.get:∀{ds:List D} {xs:List V} {i:Nat} {d:D},RepL Γ H ds xs->ds[i]?=some d->∃x,xs[i]?=some x/\Rep Γ H d x
 | [],xs,i,d,h,e=>by simp at e
 | d::ds,xs,0,d',h,e=>by
  obtain ⟨x,r,e1,q,t⟩:=a00.mp h
  simp at e
  subst e e1
  exact ⟨x,rfl,q⟩
 | d::ds,xs,i+1,d',h,e=>by
  obtain ⟨x,r,e1,q,t⟩:=a00.mp h
  obtain ⟨y,e2,q2⟩:=RepL.get (i:=i) t (by simpa using e)
  subst e1
  exact ⟨y,by simpa using e2,q2⟩
theorem RepL.take:∀{ds:List D} {xs:List V} (n:Nat),RepL Γ H ds xs->RepL Γ H (ds.take n) (xs.take n)
 | _,_,0,_=>.nil
 | [],xs,n+1,h=>by rw [a2x.mp h];exact .nil
 | d::ds,xs,n+1,h=>by
  obtain ⟨x,r,e,q,t⟩:=a00.mp h
  subst e
  exact .cons q (RepL.take n t)
theorem RepL.drop:∀{ds:List D} {xs:List V} (n:Nat),RepL Γ H ds xs->RepL Γ H (ds.drop n) (xs.drop n)
 | _,_,0,h=>h
 | [],xs,n+1,h=>by rw [a2x.mp h];exact .nil
 | d::ds,xs,n+1,h=>by
  obtain ⟨x,r,e,q,t⟩:=a00.mp h
  subst e
  exact RepL.drop n t
theorem RepL.rep {ds:List D} {xs:List V} (h:RepL Γ H ds xs):∀k:Nat,RepL Γ H (replicate k ds).flatten (replicate k xs).flatten
 | 0=>.nil
 | k+1=>by
  rw [replicate_succ,replicate_succ,flatten_cons,flatten_cons]
  exact h.append (RepL.rep h k)
theorem RepL.set {d:D} {x:V} (q:Rep Γ H d x):∀{ds:List D} {xs:List V} (i:Nat),RepL Γ H ds xs->RepL Γ H (ds.set i d) (xs.set i x)
 | [],xs,i,h=>by rw [a2x.mp h];exact .nil
 | e::ds,xs,0,h=>by
  obtain ⟨y,r,e1,_,t⟩:=a00.mp h
  subst e1
  exact .cons q t
 | e::ds,xs,i+1,h=>by
  obtain ⟨y,r,e1,q1,t⟩:=a00.mp h
  subst e1
  exact .cons q1 (RepL.set q i t)
theorem RepL.ints:∀(ns:List Int),RepL Γ H (ns.map D.int) (ns.map V.int)
 | []=>.nil
 | n::ns=>.cons (a0o.mpr rfl) (RepL.ints ns)
theorem RepL.intsOf:∀{ds:List D} {xs:List V} {ns:List Int},RepL Γ H ds xs->intsOf ds=some ns->xs=ns.map V.int
 | [],xs,ns,h,e=>by
  cases e
  exact a2x.mp h
 | .int i::ds,xs,ns,h,e=>by
  obtain ⟨x,r,e1,q,t⟩:=a00.mp h
  unfold L3.intsOf at e
  cases e2:L3.intsOf ds with
  | none=>rw [e2] at e;cases e
  | some ms=>
   rw [e2] at e
   cases e
   rw [e1,a0o.mp q,RepL.intsOf t e2,map_cons]
 | .non::ds,xs,ns,h,e=>by cases e
 | .bl _::ds,xs,ns,h,e=>by cases e
 | .str _::ds,xs,ns,h,e=>by cases e
 | .tup _::ds,xs,ns,h,e=>by cases e
 | .lst _::ds,xs,ns,h,e=>by cases e
 | .fn _ _::ds,xs,ns,h,e=>by cases e
 | .obj _ _ _::ds,xs,ns,h,e=>by cases e
theorem RepL.blsOf:∀{ds:List D} {xs:List V} {ns:List Bool},RepL Γ H ds xs->blsOf ds=some ns->xs=ns.map V.bl
 | [],xs,ns,h,e=>by
  cases e
  exact a2x.mp h
 | .bl i::ds,xs,ns,h,e=>by
  obtain ⟨x,r,e1,q,t⟩:=a00.mp h
  unfold L3.blsOf at e
  cases e2:L3.blsOf ds with
  | none=>rw [e2] at e;cases e
  | some ms=>
   rw [e2] at e
   cases e
   rw [e1,a0H.mp q,RepL.blsOf t e2,map_cons]
 | .non::ds,xs,ns,h,e=>by cases e
 | .int _::ds,xs,ns,h,e=>by cases e
 | .str _::ds,xs,ns,h,e=>by cases e
 | .tup _::ds,xs,ns,h,e=>by cases e
 | .lst _::ds,xs,ns,h,e=>by cases e
 | .fn _ _::ds,xs,ns,h,e=>by cases e
 | .obj _ _ _::ds,xs,ns,h,e=>by cases e
theorem a8E {d:D} {v:V} (h:Rep Γ H d v) (f:flat d=true):Rep Γ H' d v:=by
 cases d with
 | non=>exact a1H.mpr (a1H.mp h)
 | bl _=>exact a0H.mpr (a0H.mp h)
 | int _=>exact a0o.mpr (a0o.mp h)
 | str _=>exact a1l.mpr (a1l.mp h)
 | tup _=>cases f
 | lst _=>cases f
 | fn _ _=>cases f
 | obj _ _ _=>cases f
end
def RepO (Γ:Ct) (Hs:Hp):O->HO->Prop
 | .lst ds,ho=>∃xs,ho=.lst xs/\RepL Γ Hs ds xs
 | .obj c ns ds,ho=>∃dx xs,ho=.ins (Γ.cls c) dx (ns.zip xs)/\RepL Γ Hs ds xs
 | .dic _,_=>False
def kvT (kvs:List (List Int×Int)):List (List Key×V):=kvs.map fun p=>(p.1.map Sum.inl,V.int p.2)
def RepW (Γ:Ct) (Hs:Hp):O->HO->Prop
 | .lst ds,ho=>∃xs,ho=.lst xs/\RepL Γ Hs ds xs
 | .obj c ns ds,ho=>∃dx xs,ho=.ins (Γ.cls c) dx (ns.zip xs)/\RepL Γ Hs ds xs
 | .dic kvs,ho=>ho=.dT (kvT kvs)
theorem RepO.w {Γ:Ct} {H:Hp} {o:O} {ho:HO} (h:RepO Γ H o ho):RepW Γ H o ho:=by
 cases o with
 | lst ds=>exact h
 | obj c ns ds=>exact h
 | dic _=>exact h.elim
theorem RepW.o {Γ:Ct} {H:Hp} {o:O} {ho:HO} (h:RepW Γ H o ho) (n:∀kvs,o≠.dic kvs):RepO Γ H o ho:=by
 cases o with
 | lst ds=>exact h
 | obj c ns ds=>exact h
 | dic kvs=>exact (n kvs rfl).elim
theorem RepW.mono {Γ:Ct} {H H':Hp} (e:Same H H') {o:O} {ho:HO} (h:RepW Γ H o ho):RepW Γ H' o ho:=by
 cases o with
 | lst ds=>obtain ⟨xs,e1,r⟩:=h;exact ⟨xs,e1,r.mono e⟩
 | obj c ns ds=>obtain ⟨dx,xs,e1,r⟩:=h;exact ⟨dx,xs,e1,r.mono e⟩
 | dic _=>exact h
theorem RepO.mono {Γ:Ct} {H H':Hp} (e:Same H H') {o:O} {ho:HO} (h:RepO Γ H o ho):RepO Γ H' o ho:=by
 cases o with
 | dic _=>exact h.elim
 | lst ds=>obtain ⟨xs,e1,r⟩:=h;exact ⟨xs,e1,r.mono e⟩
 | obj c ns ds=>obtain ⟨dx,xs,e1,r⟩:=h;exact ⟨dx,xs,e1,r.mono e⟩
theorem RepO.val {Γ:Ct} {H:Hp} {o:O} {ho:HO} {a:Addr} (h:RepO Γ H o ho) (e:H a=some ho):Rep Γ H o.val (.ref a):=by
 cases o with
 | dic _=>exact h.elim
 | lst ds=>obtain ⟨xs,e1,r⟩:=h;subst e1;exact a1x.mpr ⟨a,xs,rfl,.of e,r⟩
 | obj c ns ds=>obtain ⟨dx,xs,e1,r⟩:=h;subst e1;exact a6F.mpr ⟨a,dx,xs,rfl,e,r⟩
structure Grow (Hs H Hs' H':Hp):Prop where
 s:Same Hs Hs'
 h:Same H H'
 i:Same Hs' H'
 n:∀b o,Hs' b=some o->Hs b=some o\/H b=none
theorem Grow.refl {Hs H:Hp} (e:Same Hs H):Grow Hs H Hs H:=⟨.refl _,.refl _,e,fun _ _ q=>.inl q⟩
theorem Grow.trans {Hs H Hs1 H1 Hs2 H2:Hp} (a:Grow Hs H Hs1 H1) (b:Grow Hs1 H1 Hs2 H2):Grow Hs H Hs2 H2:=
 ⟨a.s.trans b.s,a.h.trans b.h,b.i,fun c o q=>(b.n c o q).elim (fun z=>a.n c o z) fun z=>.inr (a.h.free z)⟩
theorem Grow.only {Hs H H':Hp} (e:Same Hs H) (k:Same H H'):Grow Hs H Hs H':=⟨.refl _,k,e.trans k,fun _ _ q=>.inl q⟩
theorem a1v {H:Hp} {p:Addr} {o:HO} (h:H p=none):Same H (upd H p o):=fun b u e=>by rw [a0S (a0O e h)];exact e
theorem Grow.new {Hs H:Hp} {p:Addr} {o:HO} (e:Same Hs H) (h:H p=none):Grow Hs H (upd Hs p o) (upd H p o):=
 ⟨a1v (e.free h),a1v h,fun b u q=>by
  by_cases hb:b=p
  ·subst hb;rw [a0W] at q ⊢;exact q
  ·rw [a0S hb] at q ⊢;exact e _ _ q,fun b u q=>by
  by_cases hb:b=p
  ·subst hb;exact .inr h
  ·rw [a0S hb] at q;exact .inl q⟩
theorem Grow.newOwn {Hs H:Hp} {p:Addr} {o:HO} (e:Same Hs H) (h:H p=none):Grow Hs H Hs (upd H p o):=.only e (a1v h)
theorem Grow.share {Hs H Hs' H':Hp} {a:Addr} {ho:HO} (g:Grow Hs H Hs' H') (h0:H a=none) (h1:Hs' a=none) (h2:H' a=some ho):Grow Hs H (upd Hs' a ho) H'/\Same Hs' (upd Hs' a ho):=
 ⟨⟨g.s.trans (a1v h1),g.h,fun b u q=>by
  by_cases hb:b=a
  ·subst hb;rw [a0W] at q;cases q;exact h2
  ·rw [a0S hb] at q;exact g.i _ _ q,fun b u q=>by
  by_cases hb:b=a
  ·subst hb;exact .inr h0
  ·rw [a0S hb] at q;exact g.n _ _ q⟩,a1v h1⟩
inductive RepN (Γ:Ct) (H Hs' H':Hp) (o:O) (v:V):Prop
 | mk (a:Addr) (ho:HO) (ev:v=.ref a) (h0:H a=none) (h1:Hs' a=none) (h2:H' a=some ho) (q:RepO Γ Hs' o ho)
def RepS (Γ:Ct) (H Hs' H':Hp):S->V->Prop
 | .sh d,v=>Rep Γ Hs' d v
 | .own o,v=>RepN Γ H Hs' H' o v
theorem RepS.of {Γ:Ct} {H Hs' H':Hp} {d:D} {v:V} (h:Rep Γ Hs' d v):RepS Γ H Hs' H' (.sh d) v:=h
theorem RepS.share {Γ:Ct} {Hs H Hs' H':Hp} {s:S} {v:V} (g:Grow Hs H Hs' H') (r:RepS Γ H Hs' H' s v):∃Hs'',Grow Hs H Hs'' H'/\Same Hs' Hs''/\Rep Γ Hs'' s.val v:=by
 cases s with
 | sh d=>exact ⟨Hs',g,.refl _,r⟩
 | own o=>
  obtain ⟨a,ho,rfl,h0,h1,h2,q⟩:=r
  obtain ⟨g',e⟩:=g.share h0 h1 h2
  exact ⟨_,g',e,(q.mono e).val a0W⟩
theorem RepS.look {Γ:Ct} {Hs H Hs' H':Hp} {s:S} {v:V} (g:Grow Hs H Hs' H') (r:RepS Γ H Hs' H' s v):Rep Γ H' s.val v:=by
 cases s with
 | sh d=>exact Rep.mono g.i r
 | own o=>
  obtain ⟨a,ho,rfl,h0,h1,h2,q⟩:=r
  exact (q.mono g.i).val h2
theorem RepS.back {Γ:Ct} {H H1 Hs' H':Hp} {s:S} {v:V} (k:Same H H1) (r:RepS Γ H1 Hs' H' s v):RepS Γ H Hs' H' s v:=by
 cases s with
 | sh d=>exact r
 | own o=>
  obtain ⟨a,ho,e,h0,h1,h2,q⟩:=r
  exact ⟨a,ho,e,k.free h0,h1,h2,q⟩
inductive OwnAt (Γ:Ct) (B1 Hs H:Hp) (x:Option (Option V)) (o:O):Prop
 | mk (a:Addr) (ho:HO) (e1:x=some (some (.ref a))) (e2:B1 a=none) (e3:Hs a=none) (e4:H a=some ho) (q:RepW Γ Hs o ho)
structure RE (Γ:Ct) (B0 B1 Hs H:Hp) (σ:L2.St) (ρ:MEnv):Prop where
 b:Grow B0 B1 Hs H
 sh:∀(i:Nat) (d:D),ρ[i]?=some (some (.sh d))->∃v,σ[i]?=some (some v)/\Rep Γ Hs d v
 own:∀(i:Nat) (o:O),ρ[i]?=some (some (.own o))->OwnAt Γ B1 Hs H σ[i]? o
 apart:∀(i j:Nat) (o u:O) (a:Addr),i≠j->ρ[i]?=some (some (.own o))->ρ[j]?=some (some (.own u))->σ[i]?=some (some (.ref a))->σ[j]?≠some (some (.ref a))
 len:ρ.length=σ.length
 tb:Same Γ.tb Hs
section
variable {Γ:Ct} {B0 B1 Hs H Hs' H':Hp} {σ:L2.St} {ρ:MEnv}
theorem RE.grow (r:RE Γ B0 B1 Hs H σ ρ) (g:Grow Hs H Hs' H'):RE Γ B0 B1 Hs' H' σ ρ where
 tb:=r.tb.trans g.s
 b:=r.b.trans g
 sh:=fun i d e=>let ⟨v,e1,q⟩:=r.sh i d e;⟨v,e1,q.mono g.s⟩
 own:=fun i o e=>by
  obtain ⟨a,ho,e1,e2,e3,e4,q⟩:=r.own i o e
  refine ⟨a,ho,e1,e2,?_,g.h _ _ e4,q.mono g.s⟩
  cases z:Hs' a with
  | none=>rfl
  | some u=>
   rcases g.n a u z with z'|z'
   ·rw [e3] at z';cases z'
   ·rw [e4] at z';cases z'
 apart:=r.apart
 len:=r.len
theorem RE.setSh (r:RE Γ B0 B1 Hs H σ ρ) {i:Nat} {d:D} {v:V} (hi:i<σ.length) (q:Rep Γ Hs d v):RE Γ B0 B1 Hs H (σ.set i (some v)) (ρ.set i (some (.sh d))) where
 tb:=r.tb
 b:=r.b
 sh:=fun j e hj=>by
  by_cases h:i=j
  ·subst h
   rw [getElem?_set_self (by rw [r.len];exact hi)] at hj
   cases hj
   exact ⟨v,getElem?_set_self hi,q⟩
  ·rw [getElem?_set_ne h] at hj ⊢
   exact r.sh j e hj
 own:=fun j o hj=>by
  by_cases h:i=j
  ·subst h
   rw [getElem?_set_self (by rw [r.len];exact hi)] at hj
   cases hj
  ·rw [getElem?_set_ne h] at hj ⊢
   exact r.own j o hj
 apart:=fun j k o u a hjk hj hk ha=>by
  have n1:i≠j:=fun z=>by subst z;rw [getElem?_set_self (by rw [r.len];exact hi)] at hj;cases hj
  have n2:i≠k:=fun z=>by subst z;rw [getElem?_set_self (by rw [r.len];exact hi)] at hk;cases hk
  rw [getElem?_set_ne n1] at hj ha
  rw [getElem?_set_ne n2] at hk ⊢
  exact r.apart j k o u a hjk hj hk ha
 len:=by rw [length_set,length_set,r.len]
theorem RE.setOwn (r:RE Γ B0 B1 Hs H σ ρ) {i:Nat} {o:O} {a:Addr} {ho:HO} (hi:i<σ.length) (b1:B1 a=none) (h1:Hs a=none) (h2:H a=some ho) (q:RepW Γ Hs o ho)
  (new:∀(j:Nat) (u:O),j≠i->ρ[j]?=some (some (.own u))->σ[j]?≠some (some (.ref a))):RE Γ B0 B1 Hs H (σ.set i (some (.ref a))) (ρ.set i (some (.own o))) where
 tb:=r.tb
 b:=r.b
 sh:=fun j e hj=>by
  by_cases h:i=j
  ·subst h
   rw [getElem?_set_self (by rw [r.len];exact hi)] at hj
   cases hj
  ·rw [getElem?_set_ne h] at hj ⊢
   exact r.sh j e hj
 own:=fun j u hj=>by
  by_cases h:i=j
  ·subst h
   rw [getElem?_set_self (by rw [r.len];exact hi)] at hj
   cases hj
   exact ⟨a,ho,getElem?_set_self hi,b1,h1,h2,q⟩
  ·rw [getElem?_set_ne h] at hj ⊢
   exact r.own j u hj
 apart:=fun j k u u' c hjk hj hk ha=>by
  by_cases hij:i=j
  ·subst hij
   rw [getElem?_set_self hi] at ha
   cases ha
   rw [getElem?_set_ne hjk] at hk ⊢
   exact new k u' (Ne.symm hjk) hk
  ·rw [getElem?_set_ne hij] at hj ha
   by_cases hik:i=k
   ·subst hik
    rw [getElem?_set_self hi]
    intro z
    cases z
    exact new j u (Ne.symm hij) hj ha
   ·rw [getElem?_set_ne hik] at hk ⊢
    exact r.apart j k u u' c hjk hj hk ha
 len:=by rw [length_set,length_set,r.len]
theorem RE.setS (r:RE Γ B0 B1 Hs H σ ρ) (g:Grow Hs H Hs' H') {i:Nat} {s:S} {v:V} (hi:i<σ.length) (q:RepS Γ H Hs' H' s v):RE Γ B0 B1 Hs' H' (σ.set i (some v)) (ρ.set i (some s)):=by
 cases s with
 | sh d=>exact (r.grow g).setSh hi q
 | own o=>
  obtain ⟨a,ho,rfl,h0,h1,h2,q⟩:=q
  refine (r.grow g).setOwn hi (r.b.h.free h0) h1 h2 q.w fun j u _ hj z=>?_
  obtain ⟨c,hc,e1,_,_,e4,_⟩:=r.own j u hj
  rw [z] at e1
  cases e1
  rw [h0] at e4
  cases e4
theorem RE.write (r:RE Γ B0 B1 Hs H σ ρ) {i:Nat} {o o':O} {a:Addr} {ho':HO} (e:ρ[i]?=some (some (.own o))) (ea:σ[i]?=some (some (.ref a))) (q:RepW Γ Hs o' ho'):RE Γ B0 B1 Hs (upd H a ho') σ (ρ.set i (some (.own o'))):=by
 obtain ⟨c,ho,e1,e2,e3,e4,_⟩:=r.own i o e
 rw [ea] at e1
 cases e1
 have hi:i<ρ.length:=(List.getElem?_eq_some_iff.mp e).1
 refine ⟨⟨r.b.s,fun b u z=>?_,fun b u z=>?_,r.b.n⟩,fun j d hj=>?_,fun j u hj=>?_,fun j k u u' c hjk hj hk ha=>?_,by rw [length_set,r.len],r.tb⟩
 ·rw [a0S (a0O z e2)];exact r.b.h _ _ z
 ·rw [a0S (a0O z e3)];exact r.b.i _ _ z
 ·by_cases h:i=j
  ·subst h
   rw [getElem?_set_self hi] at hj
   cases hj
  ·rw [getElem?_set_ne h] at hj
   exact r.sh j d hj
 ·by_cases h:i=j
  ·subst h
   rw [getElem?_set_self hi] at hj
   cases hj
   exact ⟨a,ho',ea,e2,e3,a0W,q⟩
  ·rw [getElem?_set_ne h] at hj
   obtain ⟨c,hc,f1,f2,f3,f4,f5⟩:=r.own j u hj
   refine ⟨c,hc,f1,f2,f3,?_,f5⟩
   rw [a0S]
   ·exact f4
   ·intro z
    subst z
    exact r.apart i j o u c h e hj ea f1
 ·have old:∀(m:Nat) (u:O),(ρ.set i (some (.own o')))[m]?=some (some (.own u))->∃u',ρ[m]?=some (some (.own u')):=fun m u hm=>by
   by_cases h:i=m
   ·subst h;exact ⟨o,e⟩
   ·rw [getElem?_set_ne h] at hm;exact ⟨u,hm⟩
  obtain ⟨x,hx⟩:=old j u hj
  obtain ⟨y,hy⟩:=old k u' hk
  exact r.apart j k x y c hjk hx hy ha
theorem RE.dem (r:RE Γ B0 B1 Hs H σ ρ) (i:Nat):∃Hs',Same Hs Hs'/\RE Γ B0 B1 Hs' H σ (dem i ρ):=by
 unfold L3.dem
 split
 ·exact ⟨Hs,.refl _,r⟩
 ·rename_i o hno e
  obtain ⟨a,ho,e1,e2,e3,e4,q⟩:=r.own i o e
  have q:=q.o fun kvs z=>by subst z;exact hno kvs rfl
  have hi:i<ρ.length:=(List.getElem?_eq_some_iff.mp e).1
  have sm:Same Hs (upd Hs a ho):=a1v e3
  have sh':Same (upd Hs a ho) H:=fun b u z=>by
   by_cases hb:b=a
   ·subst hb;rw [a0W] at z;cases z;exact e4
   ·rw [a0S hb] at z;exact r.b.i _ _ z
  refine ⟨upd Hs a ho,sm,⟨⟨r.b.s.trans sm,r.b.h,sh',fun b u z=>?_⟩,fun j d hj=>?_,fun j u hj=>?_,fun j k u u' c hjk hj hk ha=>?_,by rw [length_set,r.len],r.tb.trans sm⟩⟩
  ·by_cases hb:b=a
   ·subst hb;exact .inr e2
   ·rw [a0S hb] at z;exact r.b.n _ _ z
  ·by_cases h:i=j
   ·subst h
    rw [getElem?_set_self hi] at hj
    cases hj
    exact ⟨.ref a,e1,(q.mono sm).val a0W⟩
   ·rw [getElem?_set_ne h] at hj
    obtain ⟨v,f1,f2⟩:=r.sh j d hj
    exact ⟨v,f1,f2.mono sm⟩
  ·by_cases h:i=j
   ·subst h
    rw [getElem?_set_self hi] at hj
    cases hj
   ·rw [getElem?_set_ne h] at hj
    obtain ⟨c,hc,f1,f2,f3,f4,f5⟩:=r.own j u hj
    refine ⟨c,hc,f1,f2,?_,f4,f5.mono sm⟩
    rw [a0S]
    ·exact f3
    ·intro z
     subst z
     exact r.apart i j o u c h e hj e1 f1
  ·have n1:i≠j:=fun z=>by subst z;rw [getElem?_set_self hi] at hj;cases hj
   have n2:i≠k:=fun z=>by subst z;rw [getElem?_set_self hi] at hk;cases hk
   rw [getElem?_set_ne n1] at hj
   rw [getElem?_set_ne n2] at hk
   exact r.apart j k u u' c hjk hj hk ha
 ·exact ⟨Hs,.refl _,r⟩
end
abbrev XW:=D->Hp->Hp->Prop
def RQ (Γ:Ct) (W:XW) (Hs H:Hp) (r:R) (Q:VK):Prop:=match r with
 | .ok s=>∀v Hs' H',Grow Hs H Hs' H'->RepS Γ H Hs' H' s v->Q v H'
 | .exc x=>∀Hs' H',Grow Hs H Hs' H'->W x Hs' H'
def RL (Γ:Ct) (W:XW) (Hs H:Hp) (r:R) (Q:VK):Prop:=match r with
 | .ok s=>∀v Hs' H',Grow Hs H Hs' H'->Rep Γ H' s.val v->Q v H'
 | .exc x=>∀Hs' H',Grow Hs H Hs' H'->W x Hs' H'
def RB (W:XW) (Hs H:Hp) (r:R) (Q:Bool->Hp->Prop):Prop:=match r with
 | .ok s=>∃b,s.val=.bl b/\∀Hs' H',Grow Hs H Hs' H'->Q b H'
 | .exc x=>∀Hs' H',Grow Hs H Hs' H'->W x Hs' H'
section
variable {Γ:Ct} {W:XW} {Hs H Hs1 H1:Hp} {r:R} {Q Q':VK}
theorem RQ.grow (q:RQ Γ W Hs H r Q) (g:Grow Hs H Hs1 H1):RQ Γ W Hs1 H1 r Q:=by
 cases r with
 | ok s=>exact fun v Hs' H' g' rs=>q v Hs' H' (g.trans g') (rs.back g.h)
 | exc x=>exact fun Hs' H' g'=>q Hs' H' (g.trans g')
theorem RQ.mono (q:RQ Γ W Hs H r Q) (h:∀v H,Q v H->Q' v H):RQ Γ W Hs H r Q':=by
 cases r with
 | ok s=>exact fun v Hs' H' g' rs=>h _ _ (q v Hs' H' g' rs)
 | exc x=>exact q
theorem RL.mono (q:RL Γ W Hs H r Q) (h:∀v H,Q v H->Q' v H):RL Γ W Hs H r Q':=by
 cases r with
 | ok s=>exact fun v Hs' H' g' rs=>h _ _ (q v Hs' H' g' rs)
 | exc x=>exact q
end
inductive tD (Γ:Ct) (W:XW) (g:ME) (σ:L2.St) (H:Hp) (Q:VK):Prop
 | mk (B0 B1 Hs:Hp) (ρ:MEnv) (r:R) (re:RE Γ B0 B1 Hs H σ ρ) (e:g ρ=some r) (q:RQ Γ W Hs H r Q)
inductive tL (Γ:Ct) (W:XW) (g:ME) (σ:L2.St) (H:Hp) (Q:VK):Prop
 | mk (B0 B1 Hs:Hp) (ρ:MEnv) (r:R) (re:RE Γ B0 B1 Hs H σ ρ) (e:g ρ=some r) (q:RL Γ W Hs H r Q)
inductive tT (Γ:Ct) (W:XW) (g:ME) (σ:L2.St) (H:Hp) (Q:Bool->Hp->Prop):Prop
 | mk (B0 B1 Hs:Hp) (ρ:MEnv) (r:R) (re:RE Γ B0 B1 Hs H σ ρ) (e:g ρ=some r) (q:RB W Hs H r Q)
def b1D (Γ:Ct) (W:XW):List ME->TA
 | []=>tNil
 | g::gs=>tCons (tD Γ W g) (b1D Γ W gs)
def b3G (Γ:Ct) (W:XW):List ME->TA
 | []=>tNil
 | g::gs=>tCons (tL Γ W g) (b3G Γ W gs)
section
variable {Γ:Ct} {W:XW} {B0 B1 Hs H:Hp} {σ:L2.St} {ρ:MEnv} {r:R} {Q Q':VK} {g ga:ME} {k:D->Option R}
theorem tD.mono (t:tD Γ W g σ H Q) (h:∀v H,Q v H->Q' v H):tD Γ W g σ H Q':=by
 obtain ⟨B0,B1,Hs,ρ,r,re,e,q⟩:=t
 exact ⟨B0,B1,Hs,ρ,r,re,e,q.mono h⟩
theorem tL.mono (t:tL Γ W g σ H Q) (h:∀v H,Q v H->Q' v H):tL Γ W g σ H Q':=by
 obtain ⟨B0,B1,Hs,ρ,r,re,e,q⟩:=t
 exact ⟨B0,B1,Hs,ρ,r,re,e,q.mono h⟩
theorem tL.toD (t:tL Γ W g σ H Q):tD Γ W g σ H Q:=by
 obtain ⟨B0,B1,Hs,ρ,r,re,e,q⟩:=t
 refine ⟨B0,B1,Hs,ρ,r,re,e,?_⟩
 cases r with
 | ok s=>exact fun v Hs' H' g' rs=>q v Hs' H' g' (rs.look g')
 | exc x=>exact q
theorem a1s (re:RE Γ B0 B1 Hs H σ ρ) (e:a1h (ga ρ) k=some r) (q:RQ Γ W Hs H r Q):
  tD Γ W ga σ H (fun v H1=>∃Hs1 d,Grow Hs H Hs1 H1/\RE Γ B0 B1 Hs1 H1 σ ρ/\Rep Γ Hs1 d v/\k d=some r/\RQ Γ W Hs1 H1 r Q):=by
 cases h:ga ρ with
 | none=>rw [h] at e;cases e
 | some x=>
  rw [h] at e
  refine ⟨B0,B1,Hs,ρ,x,re,h,?_⟩
  cases x with
  | exc y=>cases e;exact q
  | ok s=>
   intro v Hs' H' g' rs
   obtain ⟨Hs'',g2,_,rp⟩:=rs.share g'
   exact ⟨Hs'',s.val,g2,re.grow g2,rp,e,q.grow g2⟩
theorem a2u:∀(gs:List ME) {σ:L2.St} {H:Hp} {Q Q':List V->Hp->Prop},(∀v H,Q v H->Q' v H)->b1D Γ W gs σ H Q->b1D Γ W gs σ H Q'
 | [],_,_,_,_,h,t=>h _ _ t
 | g::gs,_,_,_,_,h,t=>tD.mono t fun v H1 t'=>a2u gs (fun vs H2 z=>h _ _ z) t'
theorem a6K:∀(gs:List ME) {σ:L2.St} {H:Hp} {Q Q':List V->Hp->Prop},(∀v H,Q v H->Q' v H)->b3G Γ W gs σ H Q->b3G Γ W gs σ H Q'
 | [],_,_,_,_,h,t=>h _ _ t
 | g::gs,_,_,_,_,h,t=>tL.mono t fun v H1 t'=>a6K gs (fun vs H2 z=>h _ _ z) t'
theorem a5r:∀(gs:List ME) {Hs H:Hp} {k:List D->Option R},RE Γ B0 B1 Hs H σ ρ->a1e gs ρ k=some r->RQ Γ W Hs H r Q->
  b1D Γ W gs σ H (fun vs H1=>∃Hs1 ds,Grow Hs H Hs1 H1/\RE Γ B0 B1 Hs1 H1 σ ρ/\RepL Γ Hs1 ds vs/\k ds=some r/\RQ Γ W Hs1 H1 r Q)
 | [],Hs,H,k,re,e,q=>⟨Hs,[],.refl re.b.i,re,.nil,e,q⟩
 | g::gs,Hs,H,k,re,e,q=>by
  refine (a1s re e q).mono fun v H1 ⟨Hs1,d,g1,re1,rp,e1,q1⟩=>?_
  refine a2u gs (fun vs H2 ⟨Hs2,ds,g2,re2,rps,e2,q2⟩=>?_) (a5r gs re1 e1 q1)
  exact ⟨Hs2,d::ds,g1.trans g2,re2,.cons (rp.mono g2.s) rps,e2,q2⟩
theorem a8t:∀(gs:List ME) {Hs H:Hp} {k:List D->Option R} {d:D},RE Γ B0 B1 Hs H σ ρ->a6Z (a1e gs ρ k)=some (.ok (.sh d))->RQ Γ W Hs H (.ok (.sh d)) Q->
  b3G Γ W gs σ H (fun vs H1=>∃Hs1 ds,Grow Hs H Hs1 H1/\RE Γ B0 B1 Hs1 H1 σ ρ/\RepL Γ H1 ds vs/\a6Z (k ds)=some (.ok (.sh d))/\RQ Γ W Hs1 H1 (.ok (.sh d)) Q)
 | [],Hs,H,k,d,re,e,q=>⟨Hs,[],.refl re.b.i,re,.nil,e,q⟩
 | g::gs,Hs,H,k,d,re,e,q=>by
  have e':a6Z (a1h (g ρ) fun x=>a1e gs ρ fun ds=>k (x::ds))=some (.ok (.sh d)):=e
  cases h:g ρ with
  | none=>rw [h] at e';cases e'
  | some x=>
   rw [h] at e'
   cases x with
   | exc y=>cases e'
   | ok s=>
    refine ⟨B0,B1,Hs,ρ,.ok s,re,h,fun v Hs1 H1 g1 rp=>?_⟩
    refine a6K gs (fun vs H2 ⟨Hs2,ds,g2,re2,rps,e2,q2⟩=>?_) (a8t gs (k:=fun ds=>k (s.val::ds)) (re.grow g1) e' (q.grow g1))
    exact ⟨Hs2,s.val::ds,g1.trans g2,re2,.cons (rp.mono g2.h) rps,e2,q2⟩
end
theorem PE.imp {X:Cx} {e:Expr} {t t':TE} (h:PE X e t) (i:∀pins s σ H Q,Inv X pins σ H s->t' σ H Q->t σ H Q):PE X e t':=fun pins s σ H Q I q=>h pins s σ H Q I (i pins s σ H Q I q)
theorem PT.imp {X:Cx} {e:Expr} {t t':TT} (h:PT X e t) (i:∀pins s σ H Q,Inv X pins σ H s->t' σ H Q->t σ H Q):PT X e t':=fun pins s σ H Q I q=>h pins s σ H Q I (i pins s σ H Q I q)
theorem PW.imp {X:Cx} {e:Expr} {t t':TT} (h:PW X e t) (i:∀σ H Q,t' σ H Q->t σ H Q):PW X e t':=fun w pins s σ H Q I q=>h w pins s σ H Q I (i σ H Q q)
theorem PS.imp {X:Cx} {e:Stmt} {t t':TS} (h:PS X e t) (i:∀pins s σ H D,Inv X pins σ H s->t' D σ H->t D σ H):PS X e t':=fun pins s σ H D I q=>h pins s σ H D I (i pins s σ H D I q)
theorem PSs.imp {X:Cx} {e:List Stmt} {t t':TS} (h:PSs X e t) (i:∀D σ H,t' D σ H->t D σ H):PSs X e t':=fun pins s σ H D I q=>h pins s σ H D I (i D σ H q)
abbrev PD (X:Cx) (Γ:Ct) (W:XW) (e:Expr) (g:ME):Prop:=PE X e (tD Γ W g)
abbrev PL (X:Cx) (Γ:Ct) (W:XW) (e:Expr) (g:ME):Prop:=PE X e (tL Γ W g)
abbrev PTD (X:Cx) (Γ:Ct) (W:XW) (e:Expr) (g:ME):Prop:=PT X e (tT Γ W g)
abbrev PWD (X:Cx) (Γ:Ct) (W:XW) (e:Expr) (g:ME):Prop:=PW X e (tT Γ W g)
abbrev PAD (X:Cx) (Γ:Ct) (W:XW) (es:List Expr) (gs:List ME):Prop:=PA X es (b1D Γ W gs)
abbrev PAL (X:Cx) (Γ:Ct) (W:XW) (es:List Expr) (gs:List ME):Prop:=PA X es (b3G Γ W gs)
section
variable {X:Cx} {Γ:Ct} {W:XW} {e a b:Expr} {g ga gb:ME} {pos:Pos}
theorem PD.look (h:PD X Γ W e g):PL X Γ W e g:=PE.imp h fun _ _ _ _ _ _ t=>t.toD
theorem a0a {i:Nat} (h:PE X e (tVar i)):PD X Γ W e (eVar i):=PE.imp h fun _ _ σ H Q _ ⟨B0,B1,Hs,ρ,r,re,e1,q⟩=>by
 unfold eVar at e1
 split at e1
 ·rename_i d hd
  cases e1
  obtain ⟨v,e2,rp⟩:=re.sh i d hd
  exact ⟨v,e2,q v Hs H (.refl re.b.i) rp⟩
 ·cases e1
theorem a0C {i:Nat} (h:PE X e (tVar i)):PL X Γ W e (eAny i):=PE.imp h fun _ _ σ H Q _ ⟨B0,B1,Hs,ρ,r,re,e1,q⟩=>by
 unfold eAny at e1
 split at e1
 ·cases e1
 ·rename_i s hno hd
  cases e1
  cases s with
  | sh d=>
   obtain ⟨v,e2,rp⟩:=re.sh i d hd
   exact ⟨v,e2,q v Hs H (.refl re.b.i) (Rep.mono re.b.i rp)⟩
  | own o=>
   obtain ⟨c,ho,e2,_,_,e4,rp⟩:=re.own i o hd
   exact ⟨.ref c,e2,q (.ref c) Hs H (.refl re.b.i) (((rp.o fun kvs z=>by subst z;exact hno kvs rfl).mono re.b.i).val e4)⟩
 ·cases e1
theorem a8G {v:V} {d:D} (h:PE X e (tC v)) (rp:∀H,Rep Γ H d v):PD X Γ W e (eC d):=PE.imp h fun _ _ σ H Q _ ⟨B0,B1,Hs,ρ,r,re,e1,q⟩=>by
 cases e1
 exact q v Hs H (.refl re.b.i) (rp Hs)
theorem a0d {i j}:PD X Γ W (.Constant (.int i) j pos) (eC (.int i)):=a8G pe_int fun _=>a0o.mpr rfl
theorem a8H {i j}:PD X Γ W (.Constant (.bool i) j pos) (eC (.bl i)):=a8G pe_bl fun _=>a0H.mpr rfl
theorem pd_non {j}:PD X Γ W (.Constant .none j pos) (eC .non):=a8G pe_non fun _=>a1H.mpr rfl
theorem a0K {i j}:PD X Γ W (.Constant (.str i) j pos) (eC (.str i)):=a8G pe_str fun _=>a1l.mpr rfl
theorem a7j {i j pos'}:PD X Γ W (.UnaryOp .USub (.Constant (.int i) j pos') pos) (eC (.int (-i))):=PE.imp (pe_un un_neg pe_int) fun _ _ σ H Q _ ⟨B0,B1,Hs,ρ,r,re,e1,q⟩=>by
 cases e1
 exact ⟨i,rfl,q _ Hs H (.refl re.b.i) (RepS.of (a0o.mpr rfl))⟩
inductive rD (Γ:Ct) (W:XW) (f:D->D->Option R) (x y:V) (H:Hp) (Q:VK):Prop
 | mk (Hs:Hp) (d1 d2:D) (r:R) (sm:Same Hs H) (r1:Rep Γ Hs d1 x) (r2:Rep Γ Hs d2 y) (e:f d1 d2=some r) (q:RQ Γ W Hs H r Q)
theorem b1L {f:D->D->Option R} {σ:L2.St} {H:Hp} {Q:VK} (t:tD Γ W (eBin f ga gb) σ H Q):tOp (rD Γ W f) (tD Γ W ga) (tD Γ W gb) σ H Q:=by
 obtain ⟨B0,B1,Hs,ρ,r,re,e,q⟩:=t
 refine (a1s re e q).mono fun v H1 ⟨Hs1,d,g1,re1,rp,e1,q1⟩=>?_
 refine (a1s re1 e1 q1).mono fun u H2 ⟨Hs2,d2,g2,re2,rp2,e2,q2⟩=>?_
 exact ⟨Hs2,d,d2,r,re2.b.i,rp.mono g2.s,rp2,e2,q2⟩
theorem a0s {op:Operator} {f:D->D->Option R} (ho:OpR X (binaryOp op) (rD Γ W f)) (ha:PD X Γ W a ga) (hb:PD X Γ W b gb):PD X Γ W (.BinOp a op b pos) (eBin f ga gb):=
 PE.imp (pe_op ho ha hb) fun _ _ _ _ _ _ t=>b1L t
theorem a6h {op:CmpOp} {f:D->D->Option R} (ho:OpR X (compareOp op) (rD Γ W f)) (ha:PD X Γ W a ga) (hb:PD X Γ W b gb) (hm:behindInMarks op b=false:=by first|exact nomark _|rfl):PD X Γ W (.Compare a [op] [b] pos) (eBin f ga gb):=
 PE.imp (pe_cmpR ho ha hb hm) fun _ _ _ _ _ _ t=>b1L t
theorem tT_of {σ:L2.St} {H:Hp} {Q:Bool->Hp->Prop} (t:tT Γ W g σ H Q):tD Γ W g σ H (fun x H'=>∃k,x=.bl k/\Q k H'):=by
 obtain ⟨B0,B1,Hs,ρ,r,re,e,q⟩:=t
 refine ⟨B0,B1,Hs,ρ,r,re,e,?_⟩
 cases r with
 | exc x=>exact q
 | ok s=>
  obtain ⟨c,ec,q⟩:=q
  intro v Hs' H' g' rs
  obtain ⟨_,g2,_,rp⟩:=rs.share g'
  rw [ec] at rp
  exact ⟨c,a0H.mp rp,q _ _ g'⟩
theorem a0k {op:CmpOp} {f:D->D->Option R} (ho:OpR X (compareOp op) (rD Γ W f)) (ha:PD X Γ W a ga) (hb:PD X Γ W b gb) (hm:behindInMarks op b=false:=by first|exact nomark _|rfl):PTD X Γ W (.Compare a [op] [b] pos) (eBin f ga gb):=
 PT.imp (pt_cmpR ho ha hb hm) fun _ _ _ _ _ _ t=>b1L (tT_of t)
theorem a3g (h:PD X Γ W e g) (he:∀whole,isTrue e X.env whole=(do let v ←whole;standAt e.pos;holding [v] (truthy v)):=by intro _;rfl):PTD X Γ W e g:=
 PT.imp (pt_val h he) fun _ _ _ _ _ _ t=>tT_of t
section
variable {t u:ME} {rest:List Expr}
theorem RB.grow {Hs H Hs1 H1:Hp} {r:R} {Q:Bool->Hp->Prop} (q:RB W Hs H r Q) (g:Grow Hs H Hs1 H1):RB W Hs1 H1 r Q:=by
 cases r with
 | exc x=>exact fun Hs' H' g'=>q Hs' H' (g.trans g')
 | ok s=>obtain ⟨c,ec,q⟩:=q;exact ⟨c,ec,fun Hs' H' g'=>q Hs' H' (g.trans g')⟩
theorem a4k {x:D} {k:Bool->Option R} {r:R} (h:asB x k=some r):∃c,x=.bl c/\k c=some r:=by
 cases x with
 | bl c=>exact ⟨c,rfl,h⟩
 | non=>cases h
 | int _=>cases h
 | str _=>cases h
 | tup _=>cases h
 | lst _=>cases h
 | fn _ _=>cases h
 | obj _ _ _=>cases h
theorem a7g (ha:PTD X Γ W a g):PTD X Γ W (.UnaryOp .Not a pos) (eNot g):=PT.imp (pt_not ha) fun _ _ σ H Q _ t=>by
 obtain ⟨B0,B1,Hs,ρ,r,re,e,q⟩:=t
 have e':a1h (g ρ) dNot=some r:=e
 cases h:g ρ with
 | none=>rw [h] at e';cases e'
 | some x=>
  rw [h] at e'
  refine ⟨B0,B1,Hs,ρ,x,re,h,?_⟩
  cases x with
  | exc y=>cases e';exact q
  | ok s=>
   obtain ⟨c,ec,e2⟩:=a4k (show asB s.val (fun c=>okB (!c))=some r from e')
   cases e2
   obtain ⟨c',ec',q⟩:=q
   cases ec'
   exact ⟨c,ec,q⟩
theorem a1i (ha:PTD X Γ W a g):PWD X Γ W (.BoolOp .And [a] pos) g:=pw_and1 ha
theorem a3W (ha:PTD X Γ W a g):PWD X Γ W (.BoolOp .Or [a] pos) g:=pw_or1 ha
theorem a1n (ha:PTD X Γ W a t) (hb:PWD X Γ W (.BoolOp .And (b::rest) pos) u):PWD X Γ W (.BoolOp .And (a::b::rest) pos) (eAnd t u):=PW.imp (pw_and ha hb) fun σ H Q h=>by
 obtain ⟨B0,B1,Hs,ρ,r,re,e,q⟩:=h
 have e':a1h (t ρ) (fun x=>asB x fun c=>if c=true then u ρ else okB false)=some r:=e
 cases h:t ρ with
 | none=>rw [h] at e';cases e'
 | some x=>
  rw [h] at e'
  refine ⟨B0,B1,Hs,ρ,x,re,h,?_⟩
  cases x with
  | exc y=>cases e';exact q
  | ok s=>
   obtain ⟨c,ec,e2⟩:=a4k (show asB s.val _=some r from e')
   refine ⟨c,ec,fun Hs' H' g'=>?_⟩
   cases c with
   | true=>exact ⟨B0,B1,Hs',ρ,r,re.grow g',e2,q.grow g'⟩
   | false=>
    cases e2
    obtain ⟨c',ec',q⟩:=q
    cases ec'
    exact q _ _ g'
theorem a4X (ha:PTD X Γ W a t) (hb:PWD X Γ W (.BoolOp .Or (b::rest) pos) u):PWD X Γ W (.BoolOp .Or (a::b::rest) pos) (eOr t u):=PW.imp (pw_or ha hb) fun σ H Q h=>by
 obtain ⟨B0,B1,Hs,ρ,r,re,e,q⟩:=h
 have e':a1h (t ρ) (fun x=>asB x fun c=>if c=true then okB true else u ρ)=some r:=e
 cases h:t ρ with
 | none=>rw [h] at e';cases e'
 | some x=>
  rw [h] at e'
  refine ⟨B0,B1,Hs,ρ,x,re,h,?_⟩
  cases x with
  | exc y=>cases e';exact q
  | ok s=>
   obtain ⟨c,ec,e2⟩:=a4k (show asB s.val _=some r from e')
   refine ⟨c,ec,fun Hs' H' g'=>?_⟩
   cases c with
   | false=>exact ⟨B0,B1,Hs',ρ,r,re.grow g',e2,q.grow g'⟩
   | true=>
    cases e2
    obtain ⟨c',ec',q⟩:=q
    cases ec'
    exact q _ _ g'
theorem PWD.pt (h:PWD X Γ W e g):PTD X Γ W e g:=PW.pt h
theorem b4y {op} (h:PD X Γ W a g):PD X Γ W (.BoolOp op [a] pos) g:=pe_one h
theorem b4B (ha:PD X Γ W a t) (hb:PD X Γ W (.BoolOp .And (b::rest) pos) u):PD X Γ W (.BoolOp .And (a::b::rest) pos) (eAnd t u):=PE.imp (pe_and ha hb) fun _ _ σ H Q _ h=>by
 obtain ⟨B0,B1,Hs,ρ,r,re,e,q⟩:=h
 refine (a1s (k:=fun x=>asB x fun c=>if c=true then u ρ else okB false) re e q).mono fun v H1 ⟨Hs1,d,g1,re1,rp,e1,q1⟩=>?_
 obtain ⟨c,rfl,e2⟩:=a4k e1
 refine ⟨c,a0H.mp rp,?_⟩
 cases c with
 | true=>exact ⟨B0,B1,Hs1,ρ,r,re1,e2,q1⟩
 | false=>cases e2;exact q1 _ Hs1 H1 (.refl re1.b.i) (RepS.of (a0H.mpr rfl))
theorem pd_or (ha:PD X Γ W a t) (hb:PD X Γ W (.BoolOp .Or (b::rest) pos) u):PD X Γ W (.BoolOp .Or (a::b::rest) pos) (eOr t u):=PE.imp (pe_or ha hb) fun _ _ σ H Q _ h=>by
 obtain ⟨B0,B1,Hs,ρ,r,re,e,q⟩:=h
 refine (a1s (k:=fun x=>asB x fun c=>if c=true then okB true else u ρ) re e q).mono fun v H1 ⟨Hs1,d,g1,re1,rp,e1,q1⟩=>?_
 obtain ⟨c,rfl,e2⟩:=a4k e1
 refine ⟨c,a0H.mp rp,?_⟩
 cases c with
 | false=>exact ⟨B0,B1,Hs1,ρ,r,re1,e2,q1⟩
 | true=>cases e2;exact q1 _ Hs1 H1 (.refl re1.b.i) (RepS.of (a0H.mpr rfl))
theorem pd_not (ha:PD X Γ W a g):PD X Γ W (.UnaryOp .Not a pos) (eNot g):=PE.imp (pe_not ha) fun _ _ σ H Q _ h=>by
 obtain ⟨B0,B1,Hs,ρ,r,re,e,q⟩:=h
 refine (a1s (k:=dNot) re e q).mono fun v H1 ⟨Hs1,d,g1,re1,rp,e1,q1⟩=>?_
 obtain ⟨c,rfl,e2⟩:=a4k e1
 cases e2
 exact ⟨c,a0H.mp rp,q1 _ Hs1 H1 (.refl re1.b.i) (RepS.of (a0H.mpr rfl))⟩
theorem pd_ifExp {c:Expr} (hc:PTD X Γ W c g) (ha:PD X Γ W a ga) (hb:PD X Γ W b gb):PD X Γ W (.IfExp c a b pos) (eIf g ga gb):=PE.imp (pe_ifExp hc ha hb) fun _ _ σ H Q _ h=>by
 obtain ⟨B0,B1,Hs,ρ,r,re,e,q⟩:=h
 have e':a1h (g ρ) (fun x=>asB x fun c=>if c=true then ga ρ else gb ρ)=some r:=e
 cases h:g ρ with
 | none=>rw [h] at e';cases e'
 | some x=>
  rw [h] at e'
  refine ⟨B0,B1,Hs,ρ,x,re,h,?_⟩
  cases x with
  | exc y=>cases e';exact q
  | ok s=>
   obtain ⟨c,ec,e2⟩:=a4k (show asB s.val _=some r from e')
   refine ⟨c,ec,fun Hs' H' g'=>?_⟩
   cases c with
   | true=>exact ⟨B0,B1,Hs',ρ,r,re.grow g',e2,q.grow g'⟩
   | false=>exact ⟨B0,B1,Hs',ρ,r,re.grow g',e2,q.grow g'⟩
end
theorem a0e:PAD X Γ W [] []:=a5b
theorem a1j {es:List Expr} {gs:List ME} (h:PD X Γ W e g) (t:PAD X Γ W es gs) (hs:starEach (e::es) X.env=(false,eval e X.env)::starEach es X.env:=by rfl):PAD X Γ W (e::es) (g::gs):=a2j h t hs
theorem a0R:PAL X Γ W [] []:=a5b
theorem a0B {es:List Expr} {gs:List ME} (h:PL X Γ W e g) (t:PAL X Γ W es gs) (hs:starEach (e::es) X.env=(false,eval e X.env)::starEach es X.env:=by rfl):PAL X Γ W (e::es) (g::gs):=a2j h t hs
inductive spR (Γ:Ct) (W:XW) (F:List D->Option R) (vs:List V) (H:Hp) (Q:VK):Prop
 | mk (Hs:Hp) (ds:List D) (r:R) (sm:Same Hs H) (rl:RepL Γ Hs ds vs) (e:F ds=some r) (q:RQ Γ W Hs H r Q) (tb:Same Γ.tb Hs)
theorem a7d {F:List D->Option R} {gs:List ME} {σ:L2.St} {H:Hp} {Q:VK} (t:tD Γ W (a0l F gs) σ H Q):b1D Γ W gs σ H fun vs H1=>spR Γ W F vs H1 Q:=by
 obtain ⟨B0,B1,Hs,ρ,r,re,e,q⟩:=t
 exact a2u gs (fun vs H1 ⟨Hs1,ds,_,re1,rp,e1,q1⟩=>⟨Hs1,ds,r,re1.b.i,rp,e1,q1,re1.tb⟩) (a5r gs re e q)
theorem b1K {F:List D->Option R} {gs:List ME} {σ:L2.St} {H:Hp} {Q:VK} (t:tD Γ W (a0r F gs) σ H Q):b3G Γ W gs σ H fun vs H1=>spR Γ W F vs H1 Q:=by
 obtain ⟨B0,B1,Hs,ρ,r,re,e,q⟩:=t
 have e':a6Z (a1e gs ρ F)=some r:=e
 obtain ⟨d,rfl⟩:∃d,r=.ok (.sh d):=by
  unfold a6Z at e'
  split at e'
  ·split at e'
   ·cases e';exact ⟨_,rfl⟩
   ·cases e'
  ·cases e'
 refine a6K gs (fun vs H1 ⟨Hs1,ds,g1,re1,rp,e1,q1⟩=>?_) (a8t gs re e' q)
 unfold a6Z at e1
 split at e1
 ·rename_i s hs
  split at e1
  ·rename_i hf
   cases e1
   refine ⟨H1,ds,_,.refl _,rp,hs,fun v Hs' H' g' rs=>q1 v Hs1 H' (.only re1.b.i g'.h) ?_,re1.tb.trans re1.b.i⟩
   exact a8E (rs.look g') hf
  ·cases e1
 ·cases e1
section
variable {CX:CXT} {k:Nat} {f:Addr} {fd:FuncData} {ps:List Str} {x:Str} {p:Pos} {es:List Expr} {gs:List ME} {F:List D->Option R}
def spD (Γ:Ct) (W:XW) (F:List D->Option R):Sp:=fun vs H Q _=>spR Γ W F vs H Q
theorem pd_call (G:FnOk X.prog X.w X.K X.mg X.base CX0 k f fd ps (spD Γ W F)) (hr:Room k X.A) (hg:Gl X x) (hm:X.mg x=some (.ref f)) (hk:keepIn X.K (.ref f)=true) (hb:a5s X.K fd ps [])
  (ha:PAD X Γ W (e::es) gs) (hdb:(x == ("__debug__" : Str))=false:=by decide) (he:starEach (e::es) X.env=(false,eval e X.env)::starEach es X.env:=by rfl) (hpl:(backTo pos (starEach es X.env)).any (·.1)=false:=by rfl):
  PD X Γ W (.Call (.Name x p) (e::es) [] pos) (a0l F gs):=
 PE.imp (pe_call (E:=E0) (dvs:=[]) (ds:=[]) G hr hg hm hk hb .nil b4C ha hdb he hpl) fun _ _ _ _ _ _ t=>a2u gs (fun vs H1 z=>by show spR Γ W F (vs++[]) H1 _;rw [append_nil];exact z) (a7d t)
end
section
variable {x:Str} {p:Pos} {es:List Expr} {gs:List ME} {F:List D->Option R} {id T:String}
theorem a6O (hc:a2X X (.builtin id) (spR Γ W F)) (hg:Gl X x) (hm:X.mg x=none) (hv:bootBuiltins x=some (.builtin id)) (ha:PAD X Γ W (e::es) gs) (hn:x ≠ "__name__" := by decide) (hdb:(x == ("__debug__" : Str))=false:=by decide)
  (he:starEach (e::es) X.env=(false,eval e X.env)::starEach es X.env:=by rfl) (hpl:(backTo pos (starEach es X.env)).any (·.1)=false:=by rfl):PD X Γ W (.Call (.Name x p) (e::es) [] pos) (a0l F gs):=
 PE.imp (a66 hc hg hm hv ha hn hdb he hpl) fun _ _ _ _ _ _ t=>a7d t
theorem a0Q (hc:a2X X (.builtin id) (spR Γ W F)) (hg:Gl X x) (hm:X.mg x=none) (hv:bootBuiltins x=some (.builtin id)) (ha:PAL X Γ W (e::es) gs) (hn:x ≠ "__name__" := by decide) (hdb:(x == ("__debug__" : Str))=false:=by decide)
  (he:starEach (e::es) X.env=(false,eval e X.env)::starEach es X.env:=by rfl) (hpl:(backTo pos (starEach es X.env)).any (·.1)=false:=by rfl):PD X Γ W (.Call (.Name x p) (e::es) [] pos) (a0r F gs):=
 PE.imp (a66 hc hg hm hv ha hn hdb he hpl) fun _ _ _ _ _ _ t=>b1K t
theorem a51 (hc:a2X X (.type T) (spR Γ W F)) (hg:Gl X x) (hm:X.mg x=none) (hv:bootBuiltins x=some (.type T)) (ha:PAD X Γ W (e::es) gs) (hn:x ≠ "__name__" := by decide) (hdb:(x == ("__debug__" : Str))=false:=by decide)
  (he:starEach (e::es) X.env=(false,eval e X.env)::starEach es X.env:=by rfl) (hpl:(backTo pos (starEach es X.env)).any (·.1)=false:=by rfl):PD X Γ W (.Call (.Name x p) (e::es) [] pos) (a0l F gs):=
 PE.imp (a6g hc hg hm hv ha hn hdb he hpl) fun _ _ _ _ _ _ t=>a7d t
end
theorem a0u {es:List Expr} {gs:List ME} {x1} (ha:PAD X Γ W es gs):PD X Γ W (.Tuple es x1 pos) (eTup gs):=PE.imp (pe_tup ha) fun _ _ σ H Q _ t=>by
 refine a2u gs (fun vs H1 ⟨Hs1,ds,r,sm,rp,e1,q1,_⟩=>?_) (a7d t)
 try dsimp only at e1
 split at e1
 ·rename_i hl
  cases e1
  refine ⟨by rw [←rp.length];exact le_trans hl (by decide),fun p hp=>q1 _ (upd Hs1 p (.tup vs)) _ (.new sm hp) ?_⟩
  exact a1G.mpr ⟨p,vs,rfl,.of a0W,rp.mono (a1v (sm.free hp))⟩
 ·cases e1
theorem a1w {es:List Expr} {gs:List ME} (ha:PAD X Γ W es gs):PD X Γ W (.List es pos) (eLst gs):=PE.imp (pe_lst ha) fun _ _ σ H Q _ t=>by
 refine a2u gs (fun vs H1 ⟨Hs1,ds,r,sm,rp,e1,q1,_⟩=>?_) (a7d t)
 try dsimp only at e1
 split at e1
 ·rename_i hl
  cases e1
  refine ⟨by rw [←rp.length];exact le_trans hl (by decide),fun p hp=>q1 _ Hs1 _ (.newOwn sm hp) ?_⟩
  exact ⟨p,_,rfl,hp,sm.free hp,a0W,vs,rfl,rp⟩
 ·cases e1
theorem a0i {f:D->D->Option R} (ho:IxR X (rD Γ W f)) (ha:PD X Γ W a ga) (hb:PD X Γ W b gb) (hs:b1E b:=by exact fun _ _=>rfl):PD X Γ W (.Subscript a b pos) (eBin f ga gb):=
 PE.imp (pe_ix ho ha hb hs) fun _ _ _ _ _ _ t=>b1L t
end
def EQ (Γ:Ct) (W:XW) (B0 B1 Hs:Hp) (D:Ends):Out->Prop
 | .next ρ'=>∀σ' Hs' H',Same Hs Hs'->RE Γ B0 B1 Hs' H' σ' ρ'->D.nx σ' H'
 | .brk ρ'=>∀σ' Hs' H',Same Hs Hs'->RE Γ B0 B1 Hs' H' σ' ρ'->D.bk σ' H'
 | .cont ρ'=>∀σ' Hs' H',Same Hs Hs'->RE Γ B0 B1 Hs' H' σ' ρ'->D.ct σ' H'
 | .ret s=>∀v Hs' H',Same Hs Hs'->Grow B0 B1 Hs' H'->RepS Γ B1 Hs' H' s v->D.rt v H'
 | .exc x=>∀Hs' H',Same Hs Hs'->Grow B0 B1 Hs' H'->W x Hs' H'
theorem EQ.from {Γ:Ct} {W:XW} {B0 B1 Hs Hs1:Hp} {D:Ends} {o:Out} (q:EQ Γ W B0 B1 Hs D o) (k:Same Hs Hs1):EQ Γ W B0 B1 Hs1 D o:=by
 cases o with
 | next ρ=>exact fun σ' Hs' H' h=>q σ' Hs' H' (k.trans h)
 | brk ρ=>exact fun σ' Hs' H' h=>q σ' Hs' H' (k.trans h)
 | cont ρ=>exact fun σ' Hs' H' h=>q σ' Hs' H' (k.trans h)
 | ret s=>exact fun v Hs' H' h=>q v Hs' H' (k.trans h)
 | exc x=>exact fun Hs' H' h=>q Hs' H' (k.trans h)
inductive tS (Γ:Ct) (W:XW) (g:MC) (D:Ends) (σ:L2.St) (H:Hp):Prop
 | mk (B0 B1 Hs:Hp) (ρ:MEnv) (o:Out) (re:RE Γ B0 B1 Hs H σ ρ) (e:g ρ=some o) (q:EQ Γ W B0 B1 Hs D o)
abbrev PSD (X:Cx) (Γ:Ct) (W:XW) (st:Stmt) (g:MC):Prop:=PS X st (tS Γ W g)
abbrev PSsD (X:Cx) (Γ:Ct) (W:XW) (st:List Stmt) (g:MC):Prop:=PSs X st (tS Γ W g)
section
variable {X:Cx} {Γ:Ct} {W:XW} {st:Stmt} {rest a b:List Stmt} {g g1 g2:MC} {ge gc:ME} {e c:Expr} {pos:Pos}
theorem a0n:PSsD X Γ W [] a0F:=PSs.imp b4o fun D σ H ⟨B0,B1,Hs,ρ,o,re,e,q⟩=>by
 cases e
 exact q σ Hs H (.refl _) re
theorem a0f (h1:PSD X Γ W st g1) (h2:PSsD X Γ W rest g2):PSsD X Γ W (st::rest) (sSeq g1 g2):=PSs.imp (b1W h1 h2) fun D σ H ⟨B0,B1,Hs,ρ,o,re,e,q⟩=>by
 unfold sSeq at e
 cases h:g1 ρ with
 | none=>rw [h] at e;cases e
 | some u=>
  rw [h] at e
  refine ⟨B0,B1,Hs,ρ,u,re,h,?_⟩
  cases u with
  | next ρ'=>exact fun σ' Hs' H' sm re'=>⟨B0,B1,Hs',ρ',o,re',e,q.from sm⟩
  | brk ρ'=>cases e;exact q
  | cont ρ'=>cases e;exact q
  | ret s=>cases e;exact q
  | exc x=>cases e;exact q
theorem a0h (h:PSD X Γ W st g):PSsD X Γ W [st] g:=pss_one h
theorem a0A {i:Nat} (h:PSsD X Γ W rest g):PSsD X Γ W rest (sDem i g):=PSs.imp h fun D σ H ⟨B0,B1,Hs,ρ,o,re,e,q⟩=>by
 obtain ⟨Hs',sm,re'⟩:=re.dem i
 exact ⟨B0,B1,Hs',dem i ρ,o,re',e,q.from sm⟩
theorem tD_O {B0 B1 Hs H:Hp} {σ:L2.St} {ρ:MEnv} {o:Out} {D:Ends} {k:S->Option Out} (re:RE Γ B0 B1 Hs H σ ρ) (e:a5N (ge ρ) k=some o) (q:EQ Γ W B0 B1 Hs D o):
  tD Γ W ge σ H (fun v H1=>∃Hs1 s,Grow Hs H Hs1 H1/\RepS Γ H Hs1 H1 s v/\k s=some o):=by
 cases h:ge ρ with
 | none=>rw [h] at e;cases e
 | some x=>
  rw [h] at e
  refine ⟨B0,B1,Hs,ρ,x,re,h,?_⟩
  cases x with
  | exc y=>cases e;exact fun Hs' H' g'=>q Hs' H' g'.s (re.b.trans g')
  | ok s=>exact fun v Hs' H' g' rs=>⟨Hs',s,g',rs,e⟩
theorem b2H {i:Nat} {t:TE} (h:PS X st (tAsg (tD Γ W ge) (b5p i))) (hi:i<X.N.length):PSD X Γ W st (sSet i ge):=PS.imp h fun pins s σ H D I ⟨B0,B1,Hs,ρ,o,re,e,q⟩=>by
 refine (tD_O re e q).mono fun v H1 ⟨Hs1,s,g1,rs,e1⟩=>?_
 cases e1
 exact q _ Hs1 H1 g1.s (re.setS g1 (by rw [I.len];exact hi) rs)
theorem psd_set {i:Nat} {x:Str} {pos':Pos} (hN:X.N.Nodup) (hi:X.N[i]?=some x) (hx:Loc X.env.scope x) (he:PD X Γ W e ge) (hs:swapsWith e (some (.Name x pos')) pos.line X.env=pure false:=by rfl)
  (hf:X.fn x=true\/X.env.scope.names.lookup x=some .local:=by first|exact .inl rfl|exact .inr rfl|assumption):PSD X Γ W (.Assign [.Name x pos'] e pos) (sSet i ge):=
 b2H (t:=tD Γ W ge) (ps_set hN hi hx he hs hf) (List.getElem?_eq_some_iff.mp hi).1
theorem a0m (he:PD X Γ W e ge):PSD X Γ W (.Return (some e) pos) (sRet ge):=PS.imp (ps_ret he) fun pins s σ H D I ⟨B0,B1,Hs,ρ,o,re,e,q⟩=>by
 refine (tD_O re e q).mono fun v H1 ⟨Hs1,s,g1,rs,e1⟩=>?_
 cases e1
 exact q v Hs1 H1 g1.s (re.b.trans g1) (rs.back re.b.h)
theorem b5X {x:D} {k:Bool->Option Out} {o:Out} (h:asBO x k=some o):∃c,x=.bl c/\k c=some o:=by
 cases x with
 | bl c=>exact ⟨c,rfl,h⟩
 | non=>cases h
 | int _=>cases h
 | str _=>cases h
 | tup _=>cases h
 | lst _=>cases h
 | fn _ _=>cases h
 | obj _ _ _=>cases h
theorem a0I (hc:PTD X Γ W c gc) (ha:PSsD X Γ W a g1) (hb:PSsD X Γ W b g2):PSD X Γ W (.If c a b pos) (sIf gc g1 g2):=PS.imp (ps_if hc ha hb) fun pins s σ H D I ⟨B0,B1,Hs,ρ,o,re,e,q⟩=>by
 have e':a5N (gc ρ) (fun s=>asBO s.val fun t=>if t=true then g1 ρ else g2 ρ)=some o:=e
 cases h:gc ρ with
 | none=>rw [h] at e';cases e'
 | some x=>
  rw [h] at e'
  refine ⟨B0,B1,Hs,ρ,x,re,h,?_⟩
  cases x with
  | exc y=>cases e';exact fun Hs' H' g'=>q Hs' H' g'.s (re.b.trans g')
  | ok s=>
   obtain ⟨t,et,e2⟩:=b5X (show asBO s.val _=some o from e')
   refine ⟨t,et,fun Hs' H' g'=>?_⟩
   cases t with
   | true=>exact ⟨B0,B1,Hs',ρ,o,re.grow g',e2,q.from g'.s⟩
   | false=>exact ⟨B0,B1,Hs',ρ,o,re.grow g',e2,q.from g'.s⟩
structure Walk (Γ:Ct) (Hs0:Hp) (J:It) (ds:List D):Prop where
 go:∀i Hs H,i<ds.length->Same Hs0 Hs->Same Hs H->J.go i H
 stop:∀Hs H,Same Hs0 Hs->Same Hs H->J.stop ds.length H
 yld:∀i Hs H x H',i<ds.length->Same Hs0 Hs->Same Hs H->J.yld i H x H'->∃d Hs',ds[i]?=some d/\Grow Hs H Hs' H'/\Rep Γ Hs' d x
def IQ (Γ:Ct) (W:XW) (Hs H:Hp) (r:RI) (Q:It->Hp->Prop):Prop:=match r with
 | .ok ds=>∀J Hs' H',Grow Hs H Hs' H'->Walk Γ Hs' J ds->Q J H'
 | .exc x=>∀Hs' H',Grow Hs H Hs' H'->W x Hs' H'
inductive tI (Γ:Ct) (W:XW) (gi:MI) (σ:L2.St) (H:Hp) (Q:It->Hp->Prop):Prop
 | mk (B0 B1 Hs:Hp) (ρ:MEnv) (r:RI) (re:RE Γ B0 B1 Hs H σ ρ) (e:gi ρ=some r) (q:IQ Γ W Hs H r Q)
abbrev PID (X:Cx) (Γ:Ct) (W:XW) (tg iter:Expr) (gi:MI):Prop:=PI X tg iter (tI Γ W gi)
theorem PI.imp {X:Cx} {tg e:Expr} {t t':TI} (h:PI X tg e t) (i:∀pins s σ H Q,Inv X pins σ H s->t' σ H Q->t σ H Q):PI X tg e t':=fun pins s σ H Q I q=>h pins s σ H Q I (i pins s σ H Q I q)
inductive tB3 (Γ:Ct) (js:List Nat) (bd:MB) (v:V) (σ:L2.St) (H:Hp) (Q:L2.St->Hp->Prop):Prop
 | mk (B0 B1 Hs:Hp) (ρ:MEnv) (d:D) (ρ':MEnv) (re:RE Γ B0 B1 Hs H σ ρ) (rp:Rep Γ Hs d v) (e:bd d ρ=some ρ') (q:∀σ':L2.St,RE Γ B0 B1 Hs H σ' ρ'->(∀j:Nat,j∉js->σ'[j]?=σ[j]?)->Q σ' H)
abbrev PBD (X:Cx) (Γ:Ct) (tg:Expr) (js:List Nat) (bd:MB):Prop:=PG X tg (tB3 Γ js bd)
theorem PG.imp {X:Cx} {tg:Expr} {t t':TG} (h:PG X tg t) (i:∀pins s v σ H Q,Inv X pins σ H s->t' v σ H Q->t v σ H Q):PG X tg t':=fun pins s σ H v u Q I r q=>h pins s σ H v u Q I r (i pins s v σ H Q I q)
theorem pbd_name {j:Nat} {x:Str} (hN:X.N.Nodup) (hi:X.N[j]?=some x) (hx:Loc X.env.scope x) (hf:X.fn x=true\/X.env.scope.names.lookup x=some .local:=by first|exact .inl rfl|exact .inr rfl|assumption):PBD X Γ (.Name x pos) [j] (a09 j):=
 PG.imp (b0T hN hi hx hf) fun pins s v σ H Q I ⟨B0,B1,Hs,ρ,d,ρ',re,rp,e,q⟩=>by
  cases e
  exact q _ (re.setSh (by rw [I.len];exact (List.getElem?_eq_some_iff.mp hi).1) rp) fun i hi=>getElem?_set_ne fun z=>hi (by simp [z])
theorem b1Z {j k:Nat} {x y:Str} {px py:Pos} {kt:Nat} (hK:X.K=Γ.K) (hc:X.calm=true) (hN:X.N.Nodup) (hj:X.N[j]?=some x) (hk:X.N[k]?=some y) (hx:Loc X.env.scope x) (hy:Loc X.env.scope y)
  (fx:X.fn x=true\/X.env.scope.names.lookup x=some .local:=by first|exact .inl rfl|exact .inr rfl|assumption) (fy:X.fn y=true\/X.env.scope.names.lookup y=some .local:=by first|exact .inl rfl|exact .inr rfl|assumption)
  (hn:(assignEach [.Name x px,.Name y py] X.env).length=2:=by rfl) (hst:(assignEach [.Name x px,.Name y py] X.env).findIdx? (·.1)=none:=by rfl)
  (hs1:(assignEach [.Name x px,.Name y py] X.env).map (·.2)=assign (.Name x px) X.env::(assignEach [.Name y py] X.env).map (·.2):=by rfl) (hs2:(assignEach [.Name y py] X.env).map (·.2)=assign (.Name y py) X.env::(assignEach [] X.env).map (·.2):=by rfl):
  PBD X Γ (.Tuple [.Name x px,.Name y py] kt pos) [j,k] (bTup [j,k]):=
 PG.imp (pg_tup hc (b1Y (b0T hN hj hx fx) (b1Y (b0T hN hk hy fy) pgs_nil hs2) hs1) hn hst) fun pins s v σ H Q I ⟨B0,B1,Hs,ρ,d,ρ',re,rp,e,q⟩=>by
  have lj:j<σ.length:=by rw [I.len];exact (List.getElem?_eq_some_iff.mp hj).1
  have lk:k<σ.length:=by rw [I.len];exact (List.getElem?_eq_some_iff.mp hk).1
  cases d with
  | tup ds=>
   unfold bTup at e
   dsimp only at e
   split at e
   ·rename_i hl
    cases e
    match ds,hl with
    | [d1,d2],_=>
     obtain ⟨a,xs,rfl,sq,rl⟩:=a1G.mp rp
     obtain ⟨x1,r1,rfl,q1,rl⟩:=a00.mp rl
     obtain ⟨x2,r2,rfl,q2,rl⟩:=a00.mp rl
     obtain rfl:=a2x.mp rl
     refine ⟨a,[x1,x2],rfl,by rw [hK];exact a1E re.b.i sq,rfl,x1,[x2],rfl,x2,[],rfl,rfl,?_⟩
     exact q _ ((re.setSh lj q1).setSh (by rw [length_set];exact lk) q2) fun i hi=>by
      rw [getElem?_set_ne fun z=>hi (by simp [z]),getElem?_set_ne fun z=>hi (by simp [z])]
   ·cases e
  | non=>cases e
  | bl _=>cases e
  | int _=>cases e
  | str _=>cases e
  | lst _=>cases e
  | fn _ _=>cases e
  | obj _ _ _=>cases e
theorem for_walk {js:List Nat} {bd:MB} {body:MC} {ds:List D} {J:It} {D:Ends} {B0 B1 Hs0:Hp} {o:Out} (w:Walk Γ Hs0 J ds) (q:EQ Γ W B0 B1 Hs0 D o) {σ:L2.St} {H:Hp} {ρ:MEnv} (re:RE Γ B0 B1 Hs0 H σ ρ) (e:forD bd body ds ρ=some o):
  ∃Wv:Nat->Nat->L2.St->Hp->Prop,(∃m,Wv 0 m σ H)/\∀i m σ H,Wv i m σ H->
   (J.stop i H/\D.nx σ H)\/(J.go i H/\∃N:L2.St->Hp->Prop,(∀σ' H',N σ' H'->∃m',m'<m/\Wv (i+1) m' σ' H')/\∀x H',J.yld i H x H'->tB3 Γ js bd x σ H' fun σ2 H2=>tS Γ W body { D with nx:=N,ct:=N,bk:=D.nx } σ2 H2):=by
 refine ⟨fun i m σ H=>m=ds.length - i/\i<=ds.length/\∃Hs ρ,Same Hs0 Hs/\RE Γ B0 B1 Hs H σ ρ/\forD bd body (ds.drop i) ρ=some o,⟨_,rfl,zero_le _,Hs0,ρ,.refl _,re,e⟩,?_⟩
 rintro i m σ H ⟨rfl,hi,Hs,ρ,sm,re,e⟩
 by_cases hlt:i<ds.length
 ·refine .inr ⟨w.go i Hs H hlt sm re.b.i,fun σ' H'=>∃Hs' ρ',Same Hs0 Hs'/\RE Γ B0 B1 Hs' H' σ' ρ'/\forD bd body (ds.drop (i+1)) ρ'=some o,fun σ' H' ⟨Hs',ρ',s',r',e'⟩=>⟨_,by omega,rfl,hlt,Hs',ρ',s',r',e'⟩,fun x H' y=>?_⟩
  obtain ⟨d,Hs',ed,g',rp⟩:=w.yld i Hs H x H' hlt sm re.b.i y
  have hd:ds.drop i=d::ds.drop (i+1):=by
   rw [List.drop_eq_getElem_cons hlt]
   congr 1
   rw [getElem?_eq_getElem hlt] at ed
   exact Option.some.inj ed
  rw [hd] at e
  unfold forD at e
  cases h:bd d ρ with
  | none=>rw [h] at e;cases e
  | some ρ1=>
   rw [h] at e
   dsimp only at e
   refine ⟨B0,B1,Hs',ρ,d,ρ1,re.grow g',rp,h,fun σ2 re2 _=>?_⟩
   cases hb:body ρ1 with
   | none=>rw [hb] at e;cases e
   | some u=>
    rw [hb] at e
    refine ⟨B0,B1,Hs',ρ1,u,re2,hb,?_⟩
    have s1:Same Hs0 Hs':=sm.trans g'.s
    cases u with
    | next ρ2=>exact fun σ' Hs2 H2 s2 re3=>⟨Hs2,ρ2,s1.trans s2,re3,e⟩
    | cont ρ2=>exact fun σ' Hs2 H2 s2 re3=>⟨Hs2,ρ2,s1.trans s2,re3,e⟩
    | brk ρ2=>cases e;exact fun σ' Hs2 H2 s2 re3=>q σ' Hs2 H2 (s1.trans s2) re3
    | ret s=>cases e;exact fun v Hs2 H2 s2=>q v Hs2 H2 (s1.trans s2)
    | exc x=>cases e;exact fun Hs2 H2 s2=>q Hs2 H2 (s1.trans s2)
 ·have ei:i=ds.length:=by omega
  subst ei
  rw [List.drop_length] at e
  cases e
  exact .inl ⟨w.stop Hs H sm re.b.i,q σ Hs H sm re⟩
theorem a4n {tg iter:Expr} {gi:MI} {js:List Nat} {bd:MB} {body:List Stmt} (hp:PassesOwn (model X.prog X.w) X.A X.env X.xe) (hc:X.calm=true) (hi:PID X Γ W tg iter gi) (hg:PBD X Γ tg js bd) (hb:PSsD X Γ W body g)
  (hs:∀x,foldedSetIterable iter X.env x=pure x:=by intro _;rfl):PSD X Γ W (.For tg iter body [] pos) (sFor gi bd g):=PS.imp (ps_for hp hc hi hg hb hs) fun pins s σ H D I ⟨B0,B1,Hs,ρ,o,re,e,q⟩=>by
 unfold sFor at e
 cases h:gi ρ with
 | none=>rw [h] at e;cases e
 | some r=>
  rw [h] at e
  refine ⟨B0,B1,Hs,ρ,r,re,h,?_⟩
  cases r with
  | exc x=>cases e;exact fun Hs' H' g'=>q Hs' H' g'.s (re.b.trans g')
  | ok ds=>exact fun J Hs' H' g' w=>for_walk w (q.from g'.s) (re.grow g') e
theorem b3P {Hs0:Hp} {a:Addr} {xs:List V} {ds:List D} {K:Frag} (h:SqL K Hs0 a xs) (r:RepL Γ Hs0 ds xs):Walk Γ Hs0 (Itl K a) ds where
 go:=fun i Hs H hi s1 s2=>⟨xs,xs[i]'(by rw [←r.length];exact hi),Same.seq (s1.trans s2) h,by rw [getElem?_eq_getElem]⟩
 stop:=fun Hs H s1 s2=>⟨xs,Same.seq (s1.trans s2) h,le_of_eq r.length.symm⟩
 yld:=fun i Hs H x H' hi s1 s2 ⟨e,y⟩=>by
  subst e
  obtain ⟨z,e1,q⟩:=r.get (getElem?_eq_getElem hi)
  have e2:=y xs (Same.seq (s1.trans s2) h)
  rw [e1] at e2
  cases e2
  exact ⟨_,Hs,getElem?_eq_getElem hi,.refl s2,q.mono s1⟩
theorem walk_tup {Hs0:Hp} {a:Addr} {xs:List V} {ds:List D} {K:Frag} (h:SqT K Hs0 a xs) (r:RepL Γ Hs0 ds xs):Walk Γ Hs0 (Itt K a) ds where
 go:=fun i Hs H hi s1 s2=>⟨xs,xs[i]'(by rw [←r.length];exact hi),a1E (s1.trans s2) h,by rw [getElem?_eq_getElem]⟩
 stop:=fun Hs H s1 s2=>⟨xs,a1E (s1.trans s2) h,le_of_eq r.length.symm⟩
 yld:=fun i Hs H x H' hi s1 s2 ⟨e,y⟩=>by
  subst e
  obtain ⟨z,e1,q⟩:=r.get (getElem?_eq_getElem hi)
  have e2:=y xs (a1E (s1.trans s2) h)
  rw [e1] at e2
  cases e2
  exact ⟨_,Hs,getElem?_eq_getElem hi,.refl s2,q.mono s1⟩
theorem b1I {Hs0:Hp} (lo hi:Int):Walk Γ Hs0 (Itr lo (hi - lo).toNat) (rng lo hi) where
 go:=fun i Hs H h s1 s2=>by
  unfold rng at h
  rw [length_map,length_range] at h
  exact h
 stop:=fun Hs H s1 s2=>by
  unfold rng
  rw [length_map,length_range]
  exact le_refl _
 yld:=fun i Hs H x H' h s1 s2 ⟨e,y⟩=>by
  subst e y
  unfold rng at h ⊢
  rw [length_map,length_range] at h
  exact ⟨.int (lo+i),Hs,by rw [getElem?_map,getElem?_range h];rfl,.refl s2,a0o.mpr rfl⟩
end
theorem a9a (js:List Nat):∀ρ:MEnv,(a1q js ρ).length=ρ.length:=by
 induction js with
 | nil=>intro ρ;rfl
 | cons j js ih=>intro ρ;show (a1q js (ρ.set j none)).length=_;rw [ih,length_set]
theorem a6H (js:List Nat):∀(ρ:MEnv) (i:Nat) (v:S),(a1q js ρ)[i]?=some (some v)->i∉js/\ρ[i]?=some (some v):=by
 induction js with
 | nil=>intro ρ i v h;exact ⟨by simp,h⟩
 | cons j js ih=>
  intro ρ i v h
  obtain ⟨h1,h2⟩:=ih (ρ.set j none) i v h
  by_cases hj:j=i
  ·subst hj
   by_cases hl:j<ρ.length
   ·rw [getElem?_set_self hl] at h2;cases h2
   ·rw [getElem?_eq_none (by rw [length_set];omega)] at h2;cases h2
  ·rw [getElem?_set_ne hj] at h2
   exact ⟨by simp [h1,Ne.symm hj],h2⟩
theorem b1t (js:List Nat):∀(σ:L2.St) (i:Nat),i∉js->(a4o js σ)[i]?=σ[i]?:=by
 induction js with
 | nil=>intro σ i _;rfl
 | cons j js ih=>
  intro σ i h
  have h':i≠j/\i∉js:=by simpa using h
  show (a4o js (σ.set j none))[i]?=_
  rw [ih _ _ h'.2,getElem?_set_ne (Ne.symm h'.1)]
section
variable {Γ:Ct} {B0 B1 Hs H:Hp} {σ σ':L2.St} {ρ ρ':MEnv}
theorem RE.sub (r:RE Γ B0 B1 Hs H σ ρ) (hl:ρ'.length=σ'.length) (h:∀(i:Nat) (s:S),ρ'[i]?=some (some s)->ρ[i]?=some (some s)/\σ'[i]?=σ[i]?):RE Γ B0 B1 Hs H σ' ρ' where
 tb:=r.tb
 b:=r.b
 sh:=fun i d e=>by
  obtain ⟨e1,e2⟩:=h i _ e
  obtain ⟨v,e3,q⟩:=r.sh i d e1
  exact ⟨v,e2.trans e3,q⟩
 own:=fun i o e=>by
  obtain ⟨e1,e2⟩:=h i _ e
  obtain ⟨a,ho,e3,f1,f2,f3,q⟩:=r.own i o e1
  exact ⟨a,ho,e2.trans e3,f1,f2,f3,q⟩
 apart:=fun i j o u a hij hi hj ha=>by
  obtain ⟨e1,e2⟩:=h i _ hi
  obtain ⟨e3,e4⟩:=h j _ hj
  rw [e4]
  exact r.apart i j o u a hij e1 e3 (e2.symm.trans ha)
 len:=hl
theorem RE.other (r:RE Γ B0 B1 Hs H σ ρ) {a:Addr} {ho:HO} (h1:Hs a=none) (h2:B1 a=none) (h3:∀(i:Nat) (o:O),ρ[i]?=some (some (.own o))->σ[i]?≠some (some (.ref a))):RE Γ B0 B1 Hs (upd H a ho) σ ρ where
 tb:=r.tb
 b:=⟨r.b.s,fun b u z=>by rw [a0S (a0O z h2)];exact r.b.h _ _ z,fun b u z=>by rw [a0S (a0O z h1)];exact r.b.i _ _ z,r.b.n⟩
 sh:=r.sh
 own:=fun i o e=>by
  obtain ⟨c,hc,f1,f2,f3,f4,f5⟩:=r.own i o e
  refine ⟨c,hc,f1,f2,f3,?_,f5⟩
  rw [a0S]
  ·exact f4
  ·intro z
   subst z
   exact h3 i o e f1
 apart:=r.apart
 len:=r.len
end
theorem Grow.other {Hs H Hs' H':Hp} {a:Addr} {ho:HO} (g:Grow Hs H Hs' H') (h0:H a=none) (h1:Hs' a=none):Grow Hs H Hs' (upd H' a ho):=
 ⟨g.s,fun b u z=>by rw [a0S (a0O z h0)];exact g.h _ _ z,fun b u z=>by rw [a0S (a0O z h1)];exact g.i _ _ z,g.n⟩
theorem Grow.none {Hs H Hs' H':Hp} {a:Addr} {ho:HO} (g:Grow Hs H Hs' H') (h:Hs a=Option.none) (h':H a=some ho):Hs' a=Option.none:=by
 cases z:Hs' a with
 | none=>rfl
 | some u=>
  rcases g.n a u z with w|w
  ·rw [h] at w;cases w
  ·rw [h'] at w;cases w
def BdIn (js:List Nat) (bd:MB):Prop:=∀d ρ ρ',bd d ρ=some ρ'->ρ'.length=ρ.length/\∀i:Nat,i∉js->ρ'[i]?=ρ[i]?
theorem a06 (j:Nat):BdIn [j] (a09 j):=fun d ρ ρ' e=>by
 cases e
 exact ⟨by rw [length_set],fun i hi=>getElem?_set_ne fun z=>hi (by simp [z])⟩
theorem a9z:∀(js:List Nat) (ds:List D) (ρ:MEnv),(b1P js ds ρ).length=ρ.length/\∀i:Nat,i∉js->(b1P js ds ρ)[i]?=ρ[i]?
 | [],_,_=>⟨rfl,fun _ _=>rfl⟩
 | _::_,[],_=>⟨rfl,fun _ _=>rfl⟩
 | j::js,d::ds,ρ=>by
  obtain ⟨h1,h2⟩:=a9z js ds (ρ.set j (some (.sh d)))
  refine ⟨h1.trans length_set,fun i hi=>?_⟩
  have h':i≠j/\i∉js:=by simpa using hi
  exact (h2 i h'.2).trans (getElem?_set_ne (Ne.symm h'.1))
theorem b2q (js:List Nat):BdIn js (bTup js):=fun d ρ ρ' e=>by
 cases d with
 | tup ds=>
  unfold bTup at e
  dsimp only at e
  split at e
  ·cases e;exact a9z js ds ρ
  ·cases e
 | non=>cases e
 | bl _=>cases e
 | int _=>cases e
 | str _=>cases e
 | lst _=>cases e
 | fn _ _=>cases e
 | obj _ _ _=>cases e
section
variable {Γ:Ct} {W:XW} {js:List Nat} {gi:MI} {bd:MB} {cond elt:ME}
theorem a8z {tt:TT} (ht:∀σ H Q,tT Γ W cond σ H Q->tt σ H Q) (hb:BdIn js bd) {σ:L2.St} {H:Hp} {Q:VK} (t:tD Γ W (a1p js gi bd cond elt) σ H Q):
  tComp js (tI Γ W gi) (tB3 Γ js bd) tt (tD Γ W elt) σ H Q:=by
 obtain ⟨B0,B1,Hs,ρ,r,re,e,q⟩:=t
 unfold a1p at e
 cases h:gi ρ with
 | none=>rw [h] at e;cases e
 | some x=>
  rw [h] at e
  refine ⟨B0,B1,Hs,ρ,x,re,h,?_⟩
  cases x with
  | exc y=>cases e;exact q
  | ok ds=>
   intro J Hs1 H1 g1 w a ha
   dsimp only at e
   have hlim:ds.length<=lim:=by
    by_cases z:ds.length<=lim
    ·exact z
    ·rw [if_neg z] at e;cases e
   rw [if_pos hlim] at e
   have hs1:Hs1 a=none:=g1.i.free ha
   have h0:H a=none:=g1.h.free ha
   have hb1:B1 a=none:=re.b.h.free h0
   have re1:RE Γ B0 B1 Hs1 H1 (a4o js σ) (a1q js ρ):=(re.grow g1).sub (by rw [a9a,a5V,re.len]) fun i s z=>by
    obtain ⟨z1,z2⟩:=a6H js ρ i s z
    exact ⟨z2,b1t js σ i z1⟩
   have ap1:∀(i:Nat) (o:O),(a1q js ρ)[i]?=some (some (.own o))->(a4o js σ)[i]?≠some (some (.ref a)):=fun i o z z'=>by
    obtain ⟨c,hc,f1,_,_,f4,_⟩:=re1.own i o z
    rw [z'] at f1
    cases f1
    rw [ha] at f4
    cases f4
   refine ⟨fun i m σ2 ys H2=>m=ds.length - i/\i<=ds.length/\∃Hs2 acc,Same Hs1 Hs2/\Grow Hs H Hs2 H2/\RE Γ B0 B1 Hs2 H2 σ2 (a1q js ρ)/\Hs2 a=none/\
    (∀(i:Nat) (o:O),(a1q js ρ)[i]?=some (some (.own o))->σ2[i]?≠some (some (.ref a)))/\H2 a=some (.lst ys)/\RepL Γ Hs2 acc ys/\a6J bd cond elt (a1q js ρ) (ds.drop i) acc=some r/\acc.length<=i,⟨_,rfl,zero_le _,Hs1,[],.refl _,g1.other h0 hs1,re1.other hs1 hb1 ap1,hs1,ap1,a0W,.nil,e,zero_le _⟩,?_⟩
   rintro i m σ2 ys H2 ⟨rfl,hi,Hs2,acc,sm,g2,re2,ha2,ap,hy,rl,ec,hacc⟩
   refine ⟨hy,?_⟩
   by_cases hlt:i<ds.length
   ·refine .inr ⟨w.go i Hs2 H2 hlt sm re2.b.i,fun x H3 y=>?_⟩
    obtain ⟨d,Hs3,ed,g3,rp⟩:=w.yld i Hs2 H2 x H3 hlt sm re2.b.i y
    have hd:ds.drop i=d::ds.drop (i+1):=by
     rw [List.drop_eq_getElem_cons hlt]
     congr 1
     rw [getElem?_eq_getElem hlt] at ed
     exact Option.some.inj ed
    rw [hd] at ec
    unfold a6J at ec
    cases hbd:bd d (a1q js ρ) with
    | none=>rw [hbd] at ec;cases ec
    | some ρ1=>
     rw [hbd] at ec
     dsimp only at ec
     obtain ⟨bl,bo⟩:=hb d _ ρ1 hbd
     refine ⟨B0,B1,Hs3,a1q js ρ,d,ρ1,re2.grow g3,rp,hbd,fun σ4 re4 hσ=>?_⟩
     have low:∀{Hs5 H5:Hp},RE Γ B0 B1 Hs5 H5 σ4 ρ1->RE Γ B0 B1 Hs5 H5 σ4 (a1q js ρ):=fun r5=>r5.sub (by rw [←bl,r5.len]) fun k s z=>by
      obtain ⟨z1,_⟩:=a6H js ρ k s z
      exact ⟨(bo k z1).trans z,rfl⟩
     have ap4:∀(k:Nat) (o:O),(a1q js ρ)[k]?=some (some (.own o))->σ4[k]?≠some (some (.ref a)):=fun k o z=>by
      obtain ⟨z1,_⟩:=a6H js ρ k _ z
      rw [hσ k z1]
      exact ap k o z
     have ha3:=g3.none ha2 hy
     have hy3:=g3.h _ _ hy
     refine ht _ _ _ ?_
     cases hcv:cond ρ1 with
     | none=>rw [hcv] at ec;cases ec
     | some c=>
      rw [hcv] at ec
      refine ⟨B0,B1,Hs3,ρ1,c,re4,hcv,?_⟩
      cases c with
      | exc x=>
       cases ec
       exact fun Hs' H' g'=>q Hs' H' ((g2.trans g3).trans g')
      | ok s=>
       obtain ⟨b,eb,ec2⟩:=a4k (show asB s.val _=some r from ec)
       refine ⟨b,eb,fun Hs5 H5 g5=>?_⟩
       have ha5:=g5.none ha3 hy3
       have hy5:=g5.h _ _ hy3
       have re5:=re4.grow g5
       cases b with
       | false=>
        rw [if_neg Bool.false_ne_true] at ec2
        refine iteF ?_
        exact ⟨_,by omega,rfl,hlt,Hs5,acc,(sm.trans g3.s).trans g5.s,(g2.trans g3).trans g5,low re5,ha5,ap4,hy5,rl.mono (g3.s.trans g5.s),ec2,by omega⟩
       | true=>
        rw [if_pos rfl] at ec2
        refine iteT ?_
        refine (a1s (k:=fun x=>a6J bd cond elt (a1q js ρ) (ds.drop (i+1)) (acc++[x])) re5 ec2 ((q.grow (g2.trans g3)).grow g5)).mono fun v H6 ⟨Hs6,z,g6,re6,rp6,ec6,q6⟩=>?_
        have ha6:=g6.none ha5 hy5
        have hy6:=g6.h _ _ hy5
        have hlen:acc.length=ys.length:=rl.length
        have hbig:ys.length<sizeLine:=lt_of_lt_of_le (by omega:ys.length<lim) (by decide)
        refine ⟨hy6,hbig,_,by omega,rfl,hlt,Hs6,acc++[z],((sm.trans g3.s).trans g5.s).trans g6.s,(((g2.trans g3).trans g5).trans g6).other h0 ha6,(low re6).other ha6 hb1 ap4,ha6,ap4,a0W,(rl.mono ((g3.s.trans g5.s).trans g6.s)).append (.cons rp6 .nil),ec6,by rw [length_append,length_singleton];omega⟩
   ·have ei:i=ds.length:=by omega
    subst ei
    rw [List.drop_length] at ec
    unfold a6J at ec
    split at ec
    ·cases ec
     exact .inl ⟨w.stop Hs2 H2 sm re2.b.i,q _ Hs2 H2 g2 ⟨a,_,rfl,h0,ha2,hy,ys,rfl,rl⟩⟩
    ·cases ec
end
section
variable {X:Cx} {Γ:Ct} {W:XW} {scope:Scope} {vars:List Str} {js:List Nat} {elt tg iter c:Expr} {pos:Pos} {gi:MI} {bd:MB} {cond ge:ME}
theorem b3V {σ:L2.St} {H:Hp} {Q:Bool->Hp->Prop} (t:tT Γ W a2o σ H Q):tTrue σ H Q:=by
 obtain ⟨B0,B1,Hs,ρ,r,re,e,q⟩:=t
 cases e
 obtain ⟨b,eb,q⟩:=q
 cases eb
 exact q Hs H (.refl re.b.i)
theorem a1R (hb:BdIn js bd) (hc:a2m scope X.env.scope vars=true) (hj:a48 X.N vars js=true) (hcalm:X.calm=true) (hi:PID X Γ W tg iter gi)
  (hg:∀fp s H a,PBD (a2i X scope fp s H a) Γ tg js bd) (he:∀fp s H a,PD (a2i X scope fp s H a) Γ W elt ge) (hs:∀x,foldedSetIterable iter X.env x=pure x:=by intro _;rfl):
  PD X Γ W (.ListComp elt [⟨tg,iter,[],0⟩] scope pos) (a1p js gi bd a2o ge):=
 PE.imp (b4x hc hj hcalm hi hg (fun _ _ _ _=>b4u) he hs) fun _ _ _ _ _ _ t=>a8z (fun _ _ _ z=>b3V z) hb t
theorem b4A (hb:BdIn js bd) (hc:a2m scope X.env.scope vars=true) (hj:a48 X.N vars js=true) (hcalm:X.calm=true) (hi:PID X Γ W tg iter gi)
  (hg:∀fp s H a,PBD (a2i X scope fp s H a) Γ tg js bd) (ht:∀fp s H a,PTD (a2i X scope fp s H a) Γ W c cond) (he:∀fp s H a,PD (a2i X scope fp s H a) Γ W elt ge) (hs:∀x,foldedSetIterable iter X.env x=pure x:=by intro _;rfl):
  PD X Γ W (.ListComp elt [⟨tg,iter,[c],0⟩] scope pos) (a1p js gi bd cond ge):=
 PE.imp (b4x hc hj hcalm hi hg (fun fp s H a=>b4t (ht fp s H a)) he hs) fun _ _ _ _ _ _ t=>a8z (fun _ _ _ z=>z) hb t
variable {i:Nat} {x:Str} {pos' spos:Pos}
theorem a7h {st:Stmt} {t:TE} {ge:ME} (h:PS X st (tAsg t (b5p i))) (ht:∀σ H Q,tD Γ W ge σ H Q->t σ H Q) (hi:i<X.N.length):PSD X Γ W st (sSet i ge):=PS.imp h fun pins s σ H D I ⟨B0,B1,Hs,ρ,o,re,e,q⟩=>by
 refine ht _ _ _ ((tD_O re e q).mono fun v H1 ⟨Hs1,s,g1,rs,e1⟩=>?_)
 cases e1
 exact q _ Hs1 H1 g1.s (re.setS g1 (by rw [I.len];exact hi) rs)
theorem psd_comp (hN:X.N.Nodup) (hi':X.N[i]?=some x) (hx:Loc X.env.scope x) (hb:BdIn js bd) (hc:a2m scope X.env.scope vars=true) (hj:a48 X.N vars js=true) (hcalm:X.calm=true) (hi:PID X Γ W tg iter gi)
  (hg:∀fp s H a,PBD (a2i X scope fp s H a) Γ tg js bd) (he:∀fp s H a,PD (a2i X scope fp s H a) Γ W elt ge)
  (hsw:swapsWith (.ListComp elt [⟨tg,iter,[],0⟩] scope pos) (some (.Name x pos')) spos.line X.env=pure true:=by rfl) (hs:∀x,foldedSetIterable iter X.env x=pure x:=by intro _;rfl)
  (hf:X.fn x=true\/X.env.scope.names.lookup x=some .local:=by first|exact .inl rfl|exact .inr rfl|assumption):
  PSD X Γ W (.Assign [.Name x pos'] (.ListComp elt [⟨tg,iter,[],0⟩] scope pos) spos) (sSet i (a1p js gi bd a2o ge)):=
 a7h (a8h hN hi' hx hc hj hcalm hi hg (fun _ _ _ _=>b4u) he hsw hs hf) (fun _ _ _ t=>a8z (fun _ _ _ z=>b3V z) hb t) (List.getElem?_eq_some_iff.mp hi').1
theorem a8g (hN:X.N.Nodup) (hi':X.N[i]?=some x) (hx:Loc X.env.scope x) (hb:BdIn js bd) (hc:a2m scope X.env.scope vars=true) (hj:a48 X.N vars js=true) (hcalm:X.calm=true) (hi:PID X Γ W tg iter gi)
  (hg:∀fp s H a,PBD (a2i X scope fp s H a) Γ tg js bd) (ht:∀fp s H a,PTD (a2i X scope fp s H a) Γ W c cond) (he:∀fp s H a,PD (a2i X scope fp s H a) Γ W elt ge)
  (hsw:swapsWith (.ListComp elt [⟨tg,iter,[c],0⟩] scope pos) (some (.Name x pos')) spos.line X.env=pure true:=by rfl) (hs:∀x,foldedSetIterable iter X.env x=pure x:=by intro _;rfl)
  (hf:X.fn x=true\/X.env.scope.names.lookup x=some .local:=by first|exact .inl rfl|exact .inr rfl|assumption):
  PSD X Γ W (.Assign [.Name x pos'] (.ListComp elt [⟨tg,iter,[c],0⟩] scope pos) spos) (sSet i (a1p js gi bd cond ge)):=
 a7h (a8h hN hi' hx hc hj hcalm hi hg (fun fp s H a=>b4t (ht fp s H a)) he hsw hs hf) (fun _ _ _ t=>a8z (fun _ _ _ z=>z) hb t) (List.getElem?_eq_some_iff.mp hi').1
theorem a2K {l:Expr} {g:ME} (hK:X.K=Γ.K) (h:PD X Γ W l g):PID X Γ W tg l (iSeq g):=PI.imp (pi_seq h) fun _ _ σ H Q _ ⟨B0,B1,Hs,ρ,r,re,e,q⟩=>by
 unfold iSeq at e
 cases hg:g ρ with
 | none=>rw [hg] at e;cases e
 | some y=>
  rw [hg] at e
  cases y with
  | exc z=>
   cases e
   exact ⟨B0,B1,Hs,ρ,_,re,hg,q⟩
  | ok s=>
   refine ⟨B0,B1,Hs,ρ,.ok s,re,hg,fun v Hs' H' g' rs=>?_⟩
   obtain ⟨Hs2,g2,_,rp⟩:=rs.share g'
   dsimp only at e
   cases hv:s.val with
   | lst ds=>
    rw [hv] at e rp
    cases e
    obtain ⟨a,xs,rfl,rd,rl⟩:=a1x.mp rp
    rw [←hK] at rd
    exact ⟨a,rfl,.inl ⟨⟨xs,Same.seq g2.i rd⟩,q _ Hs2 H' g2 (b3P rd rl)⟩⟩
   | tup ds=>
    rw [hv] at e rp
    cases e
    obtain ⟨a,xs,rfl,sq,rl⟩:=a1G.mp rp
    rw [←hK] at sq
    exact ⟨a,rfl,.inr ⟨⟨xs,a1E g2.i sq⟩,q _ Hs2 H' g2 (walk_tup sq rl)⟩⟩
   | non=>rw [hv] at e;cases e
   | bl _=>rw [hv] at e;cases e
   | int _=>rw [hv] at e;cases e
   | str _=>rw [hv] at e;cases e
   | fn _ _=>rw [hv] at e;cases e
   | obj _ _ _=>rw [hv] at e;cases e
theorem tD_I {B0 B1 Hs H:Hp} {σ:L2.St} {ρ:MEnv} {g:ME} {k:D->Option RI} {r:RI} {Q:It->Hp->Prop} (re:RE Γ B0 B1 Hs H σ ρ) (e:iArg g ρ k=some r) (q:IQ Γ W Hs H r Q):
  tD Γ W g σ H (fun v H1=>∃Hs1 d,Grow Hs H Hs1 H1/\RE Γ B0 B1 Hs1 H1 σ ρ/\Rep Γ Hs1 d v/\k d=some r/\IQ Γ W Hs1 H1 r Q):=by
 unfold iArg at e
 cases h:g ρ with
 | none=>rw [h] at e;cases e
 | some x=>
  rw [h] at e
  refine ⟨B0,B1,Hs,ρ,x,re,h,?_⟩
  cases x with
  | exc y=>cases e;exact q
  | ok s=>
   intro v Hs' H' g' rs
   obtain ⟨Hs'',g2,_,rp⟩:=rs.share g'
   refine ⟨Hs'',s.val,g2,re.grow g2,rp,e,?_⟩
   cases r with
   | ok ds=>exact fun J Hs3 H3 g3 w=>q J Hs3 H3 (g2.trans g3) w
   | exc y=>exact fun Hs3 H3 g3=>q Hs3 H3 (g2.trans g3)
theorem a4N {i:Int} (h:a5L i=true):-(2 ^ 62)<=i/\i<2 ^ 62:=by
 unfold a5L at h
 simpa using h
theorem a1b {a:Expr} {g:ME} {p p':Pos} (hg:Gl X "range") (hm:X.mg "range" = none) (h:PD X Γ W a g) (hst:starEach (a::[]) X.env=(false,eval a X.env)::starEach [] X.env:=by rfl) (hs:starEach [a] X.env=[(false,eval a X.env)]:=by rfl):
  PID X Γ W tg (.Call (.Name "range" p) [a] [] p') (a08 g):=PI.imp (b4w hg hm (a2j h a5b hst) hs) fun _ _ σ H Q _ ⟨B0,B1,Hs,ρ,r,re,e,q⟩=>by
 refine (tD_I re e q).mono fun v H1 ⟨Hs1,d,g1,re1,rp,e1,q1⟩=>?_
 cases d with
 | int hi=>
  dsimp only at e1
  split at e1
  ·rename_i hr
   cases e1
   obtain ⟨h1,h2⟩:=a4N hr
   refine ⟨hi,by rw [a0o.mp rp],h1,h2,q1 _ Hs1 H1 (.refl re1.b.i) ?_⟩
   have w:=b1I (Γ:=Γ) (Hs0:=Hs1) 0 hi
   rw [Int.sub_zero] at w
   exact w
  ·cases e1
 | non=>cases e1
 | bl _=>cases e1
 | str _=>cases e1
 | tup _=>cases e1
 | lst _=>cases e1
 | fn _ _=>cases e1
 | obj _ _ _=>cases e1
theorem a8j {a b:Expr} {ga gb:ME} {p p':Pos} (hg:Gl X "range") (hm:X.mg "range" = none) (ha:PD X Γ W a ga) (hb:PD X Γ W b gb) (hst:starEach [a,b] X.env=(false,eval a X.env)::starEach [b] X.env:=by rfl) (hst2:starEach [b] X.env=(false,eval b X.env)::starEach [] X.env:=by rfl)
  (hs:starEach [a,b] X.env=[(false,eval a X.env),(false,eval b X.env)]:=by rfl) (hs2:starEach [b] X.env=[(false,eval b X.env)]:=by rfl):
  PID X Γ W tg (.Call (.Name "range" p) [a,b] [] p') (a6a ga gb):=PI.imp (b4v hg hm (a2j ha (a2j hb a5b hst2) hst) hs hs2) fun _ _ σ H Q _ ⟨B0,B1,Hs,ρ,r,re,e,q⟩=>by
 refine (tD_I re e q).mono fun v H1 ⟨Hs1,d,g1,re1,rp,e1,q1⟩=>?_
 refine (tD_I re1 e1 q1).mono fun u H2 ⟨Hs2,d2,g2,re2,rp2,e2,q2⟩=>?_
 cases d with
 | int lo=>
  cases d2 with
  | int hi=>
   dsimp only at e2
   split at e2
   ·rename_i hr
    cases e2
    obtain ⟨h1,h2⟩:=a4N hr.1
    obtain ⟨h3,h4⟩:=a4N hr.2
    exact ⟨lo,hi,by rw [a0o.mp rp,a0o.mp rp2],⟨h1,h2,h3,h4⟩,q2 _ Hs2 H2 (.refl re2.b.i) (b1I lo hi)⟩
   ·cases e2
  | non=>cases e2
  | bl _=>cases e2
  | str _=>cases e2
  | tup _=>cases e2
  | lst _=>cases e2
  | fn _ _=>cases e2
  | obj _ _ _=>cases e2
 | non=>cases e2
 | bl _=>cases e2
 | str _=>cases e2
 | tup _=>cases e2
 | lst _=>cases e2
 | fn _ _=>cases e2
 | obj _ _ _=>cases e2
end
section
variable {X:Cx} {Γ:Ct} {W:XW}
theorem retS {Hs H:Hp} {Q:VK} {d:D} (sm:Same Hs H) (q:RQ Γ W Hs H (.ok (.sh d)) Q) {v:V} (rp:Rep Γ Hs d v):Q v H:=q v Hs H (.refl sm) rp
theorem b0Q {Hs H:Hp} {Q:VK} {ds:List D} {xs:List V} (sm:Same Hs H) (q:RQ Γ W Hs H (.ok (.sh (.tup ds))) Q) (rl:RepL Γ Hs ds xs) {p:Addr} (hp:H p=none):Q (.ref p) (upd H p (.tup xs)):=
 q _ (upd Hs p (.tup xs)) _ (.new sm hp) (RepS.of (a1G.mpr ⟨p,xs,rfl,.of a0W,rl.mono (a1v (sm.free hp))⟩))
theorem a7f {Hs H:Hp} {Q:VK} {ds:List D} {xs:List V} (sm:Same Hs H) (q:RQ Γ W Hs H (.ok (.own (.lst ds))) Q) (rl:RepL Γ Hs ds xs) {p:Addr} (hp:H p=none):Q (.ref p) (upd H p (.lst xs)):=
 q _ Hs _ (.newOwn sm hp) ⟨p,_,rfl,hp,sm.free hp,a0W,xs,rfl,rl⟩
theorem a7q {n:Nat} (h:n<=lim):n<=sizeLine:=le_trans h (by decide)
theorem a1B {α:Type} {c:Prop} [Decidable c] {a r:α} (h:(if c then some a else none)=some r):c/\a=r:=by
 by_cases z:c
 ·rw [if_pos z] at h;exact ⟨z,Option.some.inj h⟩
 ·rw [if_neg z] at h;cases h
theorem a0t (hK:X.K=Γ.K):OpR X (binaryOp .Add) (rD Γ W dAdd):=fun pins s σ H x y v u Q I rx ry ⟨Hs,d1,d2,r,sm,r1,r2,e,q⟩=>by
 cases d1 with
 | int i=>
  cases d2 with
  | int j=>cases e;exact op_add pins s σ H x y v u Q I rx ry ⟨i,j,a0o.mp r1,a0o.mp r2,retS sm q (a0o.mpr rfl)⟩
  | non=>cases e
  | bl _=>cases e
  | str _=>cases e
  | tup _=>cases e
  | lst _=>cases e
  | fn _ _=>cases e
  | obj _ _ _=>cases e
 | str i=>
  cases d2 with
  | str j=>
   obtain ⟨hl,rfl⟩:=a1B (c:=i.length+j.length<=lim) e
   exact b2S pins s σ H x y v u Q I rx ry ⟨i,j,a1l.mp r1,a1l.mp r2,a7q hl,retS sm q (a1l.mpr rfl)⟩
  | non=>cases e
  | bl _=>cases e
  | int _=>cases e
  | tup _=>cases e
  | lst _=>cases e
  | fn _ _=>cases e
  | obj _ _ _=>cases e
 | tup ds=>
  cases d2 with
  | tup es=>
   obtain ⟨hl,rfl⟩:=a1B (c:=ds.length+es.length<=lim) e
   obtain ⟨a,xs,rfl,qa,la⟩:=a1G.mp r1
   obtain ⟨b,ys,rfl,qb,lb⟩:=a1G.mp r2
   have qa':SqT X.K H a xs:=by rw [hK];exact a1E sm qa
   have qb':SqT X.K H b ys:=by rw [hK];exact a1E sm qb
   by_cases h0:xs=[]
   ·subst h0
    have e0:ds=[]:=List.length_eq_zero_iff.mp la.length
    subst e0
    exact op_catT0 pins s σ H _ _ v u Q I rx ry ⟨a,b,ys,rfl,rfl,qa',qb',retS sm q (a1G.mpr ⟨b,ys,rfl,qb,lb⟩)⟩
   ·refine op_catT pins s σ H _ _ v u Q I rx ry ⟨a,b,xs,ys,rfl,rfl,qa',qb',h0,by rw [←la.length,←lb.length];exact a7q hl,fun z=>?_,fun z p hp=>b0Q sm q (la.append lb) hp⟩
    subst z
    have e0:es=[]:=List.length_eq_zero_iff.mp lb.length
    subst e0
    rw [append_nil] at q
    exact retS sm q (a1G.mpr ⟨a,xs,rfl,qa,la⟩)
  | non=>cases e
  | bl _=>cases e
  | int _=>cases e
  | str _=>cases e
  | lst _=>cases e
  | fn _ _=>cases e
  | obj _ _ _=>cases e
 | lst ds=>
  cases d2 with
  | lst es=>
   obtain ⟨hl,rfl⟩:=a1B (c:=ds.length+es.length<=lim) e
   obtain ⟨a,xs,rfl,qa,la⟩:=a1x.mp r1
   obtain ⟨b,ys,rfl,qb,lb⟩:=a1x.mp r2
   exact op_catR pins s σ H _ _ v u Q I rx ry ⟨a,b,xs,ys,rfl,rfl,by rw [hK];exact Same.seq sm qa,by rw [hK];exact Same.seq sm qb,by rw [←la.length,←lb.length];exact a7q hl,fun p hp=>a7f sm q (la.append lb) hp⟩
  | non=>cases e
  | bl _=>cases e
  | int _=>cases e
  | str _=>cases e
  | tup _=>cases e
  | fn _ _=>cases e
  | obj _ _ _=>cases e
 | non=>cases e
 | bl _=>cases e
 | fn _ _=>cases e
 | obj _ _ _=>cases e
theorem a2S {f:Int->Int->Option R} {g:D->D->Option R} (hg:∀d1 d2,g d1 d2=match d1,d2 with|.int i,.int j=>f i j|_,_=>none) {d1 d2:D} {r:R} (e:g d1 d2=some r):∃i j,d1=.int i/\d2=.int j/\f i j=some r:=by
 rw [hg] at e
 cases d1 with
 | int i=>
  cases d2 with
  | int j=>exact ⟨i,j,rfl,rfl,e⟩
  | non=>cases e
  | bl _=>cases e
  | str _=>cases e
  | tup _=>cases e
  | lst _=>cases e
  | fn _ _=>cases e
  | obj _ _ _=>cases e
 | non=>cases e
 | bl _=>cases e
 | str _=>cases e
 | tup _=>cases e
 | lst _=>cases e
 | fn _ _=>cases e
 | obj _ _ _=>cases e
theorem a8J:OpR X (binaryOp .Sub) (rD Γ W dSub):=fun pins s σ H x y v u Q I rx ry ⟨Hs,d1,d2,r,sm,r1,r2,e,q⟩=>by
 obtain ⟨i,j,rfl,rfl,e⟩:=a2S (f:=fun i j=>okI (i - j)) (fun _ _=>rfl) e
 cases e
 exact op_sub pins s σ H x y v u Q I rx ry ⟨i,j,a0o.mp r1,a0o.mp r2,retS sm q (a0o.mpr rfl)⟩
theorem a9v {i:Int} (h:a5O i=true):-(2 ^ 64)<i/\i<2 ^ 64:=by
 unfold a5O at h
 simpa using h
theorem a01:OpR X (binaryOp .Mod) (rD Γ W dMod):=fun pins s σ H x y v u Q I rx ry ⟨Hs,d1,d2,r,sm,r1,r2,e,q⟩=>by
 obtain ⟨i,j,rfl,rfl,e⟩:=a2S (f:=fun i j=>if 0<j then okI (i % j) else none) (fun _ _=>rfl) e
 obtain ⟨h,rfl⟩:=a1B e
 exact op_mod pins s σ H x y v u Q I rx ry ⟨i,j,a0o.mp r1,a0o.mp r2,h,retS sm q (a0o.mpr rfl)⟩
theorem a3I:OpR X (binaryOp .FloorDiv) (rD Γ W a4a):=fun pins s σ H x y v u Q I rx ry ⟨Hs,d1,d2,r,sm,r1,r2,e,q⟩=>by
 obtain ⟨i,j,rfl,rfl,e⟩:=a2S (f:=fun i j=>if 0<j/\j<1073741824 then okI (i / j) else none) (fun _ _=>rfl) e
 obtain ⟨h,rfl⟩:=a1B e
 exact op_fdiv pins s σ H x y v u Q I rx ry ⟨i,j,a0o.mp r1,a0o.mp r2,h,retS sm q (a0o.mpr rfl)⟩
theorem opd_lt:OpR X (compareOp .Lt) (rD Γ W dLt):=fun pins s σ H x y v u Q I rx ry ⟨Hs,d1,d2,r,sm,r1,r2,e,q⟩=>by
 obtain ⟨i,j,rfl,rfl,e⟩:=a2S (f:=fun i j=>okB (decide (i<j))) (fun _ _=>rfl) e
 cases e
 exact op_lt pins s σ H x y v u Q I rx ry ⟨i,j,a0o.mp r1,a0o.mp r2,retS sm q (a0H.mpr rfl)⟩
theorem b4F:OpR X (compareOp .LtE) (rD Γ W dLe):=fun pins s σ H x y v u Q I rx ry ⟨Hs,d1,d2,r,sm,r1,r2,e,q⟩=>by
 obtain ⟨i,j,rfl,rfl,e⟩:=a2S (f:=fun i j=>okB (decide (i<=j))) (fun _ _=>rfl) e
 cases e
 exact op_le pins s σ H x y v u Q I rx ry ⟨i,j,a0o.mp r1,a0o.mp r2,retS sm q (a0H.mpr rfl)⟩
theorem a5T:OpR X (compareOp .Gt) (rD Γ W dGt):=fun pins s σ H x y v u Q I rx ry ⟨Hs,d1,d2,r,sm,r1,r2,e,q⟩=>by
 obtain ⟨i,j,rfl,rfl,e⟩:=a2S (f:=fun i j=>okB (decide (j<i))) (fun _ _=>rfl) e
 cases e
 exact op_gt pins s σ H x y v u Q I rx ry ⟨i,j,a0o.mp r1,a0o.mp r2,retS sm q (a0H.mpr rfl)⟩
theorem a38:OpR X (binaryOp .Mult) (rD Γ W dMul):=fun pins s σ H x y v u Q I rx ry ⟨Hs,d1,d2,r,sm,r1,r2,e,q⟩=>by
 cases d1 with
 | int i=>
  cases d2 with
  | int j=>
   obtain ⟨hl,rfl⟩:=a1B (c:=(a5O i || a5O j)=true) e
   refine op_mul pins s σ H x y v u Q I rx ry ⟨i,j,a0o.mp r1,a0o.mp r2,?_,retS sm q (a0o.mpr rfl)⟩
   rcases Bool.or_eq_true_iff.mp hl with h|h
   ·exact .inl (a9v h)
   ·exact .inr (a9v h)
  | non=>cases e
  | bl _=>cases e
  | str _=>cases e
  | tup _=>cases e
  | lst _=>cases e
  | fn _ _=>cases e
  | obj _ _ _=>cases e
 | lst _=>cases e
 | non=>cases e
 | bl _=>cases e
 | str _=>cases e
 | tup _=>cases e
 | fn _ _=>cases e
 | obj _ _ _=>cases e
theorem b2f {d1 d2:D} {b:Bool} {x y:V} {H:Hp} (e:eqF d1 d2=some b) (r1:Rep Γ H d1 x) (r2:Rep Γ H d2 y):scal x y=true/\decide (x=y)=b:=by
 cases d1 with
 | non=>
  rw [a1H.mp r1]
  cases d2 with
  | non=>rw [a1H.mp r2];cases e;exact ⟨rfl,rfl⟩
  | bl _=>rw [a0H.mp r2];cases e;exact ⟨rfl,rfl⟩
  | int _=>rw [a0o.mp r2];cases e;exact ⟨rfl,rfl⟩
  | str _=>rw [a1l.mp r2];cases e;exact ⟨rfl,rfl⟩
  | tup _=>cases e
  | lst _=>cases e
  | fn _ _=>cases e
  | obj _ _ _=>cases e
 | bl c=>
  rw [a0H.mp r1]
  cases d2 with
  | non=>rw [a1H.mp r2];cases e;exact ⟨rfl,rfl⟩
  | bl c'=>rw [a0H.mp r2];cases e;exact ⟨rfl,by rw [Bool.eq_iff_iff];simp⟩
  | int _=>cases e
  | str _=>rw [a1l.mp r2];cases e;exact ⟨rfl,rfl⟩
  | tup _=>cases e
  | lst _=>cases e
  | fn _ _=>cases e
  | obj _ _ _=>cases e
 | int c=>
  rw [a0o.mp r1]
  cases d2 with
  | non=>rw [a1H.mp r2];cases e;exact ⟨rfl,rfl⟩
  | bl _=>cases e
  | int c'=>rw [a0o.mp r2];cases e;exact ⟨rfl,by rw [Bool.eq_iff_iff];simp⟩
  | str _=>rw [a1l.mp r2];cases e;exact ⟨rfl,rfl⟩
  | tup _=>cases e
  | lst _=>cases e
  | fn _ _=>cases e
  | obj _ _ _=>cases e
 | str c=>
  rw [a1l.mp r1]
  cases d2 with
  | non=>rw [a1H.mp r2];cases e;exact ⟨rfl,rfl⟩
  | bl _=>rw [a0H.mp r2];cases e;exact ⟨rfl,rfl⟩
  | int _=>rw [a0o.mp r2];cases e;exact ⟨rfl,rfl⟩
  | str c'=>rw [a1l.mp r2];cases e;exact ⟨rfl,by rw [Bool.eq_iff_iff];simp⟩
  | tup _=>cases e
  | lst _=>cases e
  | fn _ _=>cases e
  | obj _ _ _=>cases e
 | tup _=>cases e
 | lst _=>cases e
 | fn _ _=>cases e
 | obj _ _ _=>cases e
theorem a0D:OpR X (compareOp .Eq) (rD Γ W dEq):=fun pins s σ H x y v u Q I rx ry ⟨Hs,d1,d2,r,sm,r1,r2,e,q⟩=>by
 unfold dEq at e
 cases h:eqF d1 d2 with
 | none=>rw [h] at e;cases e
 | some b=>
  rw [h] at e
  cases e
  obtain ⟨h1,h2⟩:=b2f h r1 r2
  exact op_eq pins s σ H x y v u Q I rx ry ⟨h1,by rw [h2];exact retS sm q (a0H.mpr rfl)⟩
theorem a5S:OpR X (compareOp .NotEq) (rD Γ W dNe):=fun pins s σ H x y v u Q I rx ry ⟨Hs,d1,d2,r,sm,r1,r2,e,q⟩=>by
 unfold dNe at e
 cases h:eqF d1 d2 with
 | none=>rw [h] at e;cases e
 | some b=>
  rw [h] at e
  cases e
  obtain ⟨h1,h2⟩:=b2f h r1 r2
  exact op_ne pins s σ H x y v u Q I rx ry ⟨h1,by rw [h2];exact retS sm q (a0H.mpr rfl)⟩
theorem pd_rep {a b:Expr} {ga gb:ME} {pos:Pos} (ha:PD X Γ W a ga) (hb:PD X Γ W b gb):PD X Γ W (.BinOp a .Mult b pos) (eRep ga gb):=PE.imp (pe_op op_rep ha hb) fun _ _ σ H Q _ ⟨B0,B1,Hs,ρ,r,re,e,q⟩=>by
 unfold eRep at e
 cases h:ga ρ with
 | none=>rw [h] at e;cases e
 | some x=>
  rw [h] at e
  refine ⟨B0,B1,Hs,ρ,x,re,h,?_⟩
  cases x with
  | exc y=>cases e;exact q
  | ok s=>
   cases s with
   | sh d=>cases e
   | own o=>
    cases o with
    | obj _ _ _=>cases e
    | dic _=>cases e
    | lst ds=>
     intro v Hs1 H1 g1 rs
     obtain ⟨p,ho,rfl,h0,h1,h2,xs,rfl,rl⟩:=rs
     refine (a1s (k:=dRep ds) (re.grow g1) e (q.grow g1)).mono fun u H2 ⟨Hs2,d2,g2,re2,rp2,e2,q2⟩=>?_
     cases d2 with
     | int k=>
      obtain ⟨hl,rfl⟩:=a1B (c:=-(2 ^ 60)<=k/\k<2 ^ 60/\ds.length * k.toNat<=lim) e2
      exact ⟨p,k,xs,rfl,a0o.mp rp2,g2.h _ _ h2,by omega,by omega,by rw [←rl.length];exact a7q hl.2.2,fun p hp=>a7f re2.b.i q2 ((rl.mono g2.s).rep _) hp⟩
     | non=>cases e2
     | bl _=>cases e2
     | str _=>cases e2
     | tup _=>cases e2
     | lst _=>cases e2
     | fn _ _=>cases e2
     | obj _ _ _=>cases e2
theorem repL_map {α:Type} {H:Hp} {f:α->D} {g:α->V} (l:List α) (h:∀k,Rep Γ H (f k) (g k)):RepL Γ H (l.map f) (l.map g):=by
 induction l with
 | nil=>exact .nil
 | cons a l ih=>exact .cons (h a) ih
theorem b5W {H:Hp} {ds:List D} {xs:List V} {i:Int} {d:D} (rl:RepL Γ H ds xs) (e:atD ds i=some d):∃x,atI xs i=some x/\Rep Γ H d x:=by
 unfold atD at e
 unfold atI
 have hl:=rl.length
 have e0:ixN xs.length i=ixD ds.length i:=by rw [hl];rfl
 rw [e0]
 cases h:ixD ds.length i with
 | none=>rw [h] at e;cases e
 | some j=>
  rw [h] at e
  exact rl.get e
theorem ixd (hK:X.K=Γ.K):IxR X (rD Γ W dIx):=fun value slice pins s σ H x y v u Q I rx ry ⟨Hs,d1,d2,r,sm,r1,r2,e,q⟩ hs=>by
 cases d2 with
 | int i=>
  have ey:=a0o.mp r2
  cases d1 with
  | tup ds=>
   have e:(atD ds i).bind okD=some r:=e
   cases h:atD ds i with
   | none=>rw [h] at e;cases e
   | some d=>
    rw [h] at e
    cases e
    obtain ⟨a,xs,rfl,qa,la⟩:=a1G.mp r1
    obtain ⟨z,ez,rz⟩:=b5W la h
    exact ix_tup value slice pins s σ H _ _ v u Q I rx ry ⟨a,xs,i,z,rfl,ey,by rw [hK];exact a1E sm qa,ez,retS sm q rz⟩ hs
  | lst ds=>
   have e:(atD ds i).bind okD=some r:=e
   cases h:atD ds i with
   | none=>rw [h] at e;cases e
   | some d=>
    rw [h] at e
    cases e
    obtain ⟨a,xs,rfl,qa,la⟩:=a1x.mp r1
    obtain ⟨z,ez,rz⟩:=b5W la h
    exact ix_list value slice pins s σ H _ _ v u Q I rx ry ⟨a,xs,i,z,rfl,ey,by rw [hK];exact Same.seq sm qa,ez,retS sm q rz⟩ hs
  | str z=>
   have e':(if z.length<=lim then (atD z.cps.toList i).bind (fun c=>okD (.str ⟨#[c]⟩)) else none)=some r:=e
   by_cases hl:z.length<=lim
   ·rw [if_pos hl] at e'
    cases h:atD z.cps.toList i with
    | none=>rw [h] at e';cases e'
    | some c=>
     rw [h] at e'
     cases e'
     exact ix_str value slice pins s σ H _ _ v u Q I rx ry ⟨z,i,c,a1l.mp r1,ey,a7q hl,h,retS sm q (a1l.mpr rfl)⟩ hs
   ·rw [if_neg hl] at e';cases e'
  | non=>cases e
  | bl _=>cases e
  | int _=>cases e
  | fn _ _=>cases e
  | obj _ _ _=>cases e
 | non=>cases d1 <;> cases e
 | bl _=>cases d1 <;> cases e
 | str _=>cases d1 <;> cases e
 | tup _=>cases d1 <;> cases e
 | lst _=>cases d1 <;> cases e
 | fn _ _=>cases d1 <;> cases e
 | obj _ _ _=>cases d1 <;> cases e
theorem a5n {F:D->Option R} {ds:List D} {r:R} (h:f1 F ds=some r):∃d,ds=[d]/\F d=some r:=by
 match ds,h with
 | [d],h=>exact ⟨d,rfl,h⟩
theorem b5v {F:D->D->Option R} {ds:List D} {r:R} (h:f2 F ds=some r):∃d e,ds=[d,e]/\F d e=some r:=by
 match ds,h with
 | [d,e],h=>exact ⟨d,e,rfl,h⟩
theorem a7T {H:Hp} {d:D} {xs:List V} (h:RepL Γ H [d] xs):∃x,xs=[x]/\Rep Γ H d x:=by
 obtain ⟨x,r,e,q,t⟩:=a00.mp h
 rw [a2x.mp t] at e
 exact ⟨x,e,q⟩
theorem a1a (hK:X.K=Γ.K):a2X X (.builtin "len") (spR Γ W (f1 dLen)):=fun pins s σ H xs us Q I rs ⟨Hs,ds,r,sm,rl,e,q,tb⟩=>by
 obtain ⟨d,rfl,e⟩:=a5n e
 obtain ⟨x,rfl,rp⟩:=a7T rl
 cases d with
 | tup ds=>
  cases e
  obtain ⟨a,ys,rfl,qa,la⟩:=a1G.mp rp
  exact a6T pins s σ H _ us Q I rs ⟨a,ys,rfl,.inr (by rw [hK];exact a1E sm qa),by rw [←la.length];exact retS sm q (a0o.mpr rfl)⟩
 | lst ds=>
  cases e
  obtain ⟨a,ys,rfl,qa,la⟩:=a1x.mp rp
  exact a6T pins s σ H _ us Q I rs ⟨a,ys,rfl,.inl (by rw [hK];exact Same.seq sm qa),by rw [←la.length];exact retS sm q (a0o.mpr rfl)⟩
 | str z=>
  obtain ⟨hl,rfl⟩:=a1B (c:=z.length<=lim) e
  rw [a1l.mp rp] at rs
  exact b0w pins s σ H _ us Q I rs ⟨z,rfl,a7q hl,retS sm q (a0o.mpr rfl)⟩
 | non=>cases e
 | bl _=>cases e
 | int _=>cases e
 | fn _ _=>cases e
 | obj _ _ _=>cases e
theorem cd_sum (hK:X.K=Γ.K) (hc:X.calm=true):a2X X (.builtin "sum") (spR Γ W (f1 dSum)):=fun pins s σ H xs us Q I rs ⟨Hs,ds,r,sm,rl,e,q,tb⟩=>by
 obtain ⟨d,rfl,e⟩:=a5n e
 obtain ⟨x,rfl,rp⟩:=a7T rl
 cases d with
 | lst ds=>
  have e:(intsOf ds).bind (fun ns=>okI ns.sum)=some r:=e
  cases h:intsOf ds with
  | none=>rw [h] at e;cases e
  | some ns=>
   rw [h] at e
   cases e
   obtain ⟨a,ys,rfl,qa,la⟩:=a1x.mp rp
   have ey:=la.intsOf h
   subst ey
   exact b5K hc pins s σ H _ us Q I rs ⟨a,ns,rfl,by rw [hK];exact Same.seq sm qa,retS sm q (a0o.mpr rfl)⟩
 | tup _=>cases e
 | str _=>cases e
 | non=>cases e
 | bl _=>cases e
 | int _=>cases e
 | fn _ _=>cases e
 | obj _ _ _=>cases e
theorem b5I (hK:X.K=Γ.K) (hc:X.calm=true):a2X X (.builtin "all") (spR Γ W (f1 dAll)):=fun pins s σ H xs us Q I rs ⟨Hs,ds,r,sm,rl,e,q,tb⟩=>by
 obtain ⟨d,rfl,e⟩:=a5n e
 obtain ⟨x,rfl,rp⟩:=a7T rl
 cases d with
 | lst ds=>
  have e:(blsOf ds).bind (fun bs=>okB (bs.all id))=some r:=e
  cases h:blsOf ds with
  | none=>rw [h] at e;cases e
  | some ns=>
   rw [h] at e
   cases e
   obtain ⟨a,ys,rfl,qa,la⟩:=a1x.mp rp
   have ey:=la.blsOf h
   subst ey
   exact b5P hc pins s σ H _ us Q I rs ⟨a,ns,rfl,by rw [hK];exact Same.seq sm qa,retS sm q (a0H.mpr rfl)⟩
 | tup _=>cases e
 | str _=>cases e
 | non=>cases e
 | bl _=>cases e
 | int _=>cases e
 | fn _ _=>cases e
 | obj _ _ _=>cases e
theorem cd_any (hK:X.K=Γ.K) (hc:X.calm=true):a2X X (.builtin "any") (spR Γ W (f1 dAny)):=fun pins s σ H xs us Q I rs ⟨Hs,ds,r,sm,rl,e,q,tb⟩=>by
 obtain ⟨d,rfl,e⟩:=a5n e
 obtain ⟨x,rfl,rp⟩:=a7T rl
 cases d with
 | lst ds=>
  have e:(blsOf ds).bind (fun bs=>okB (bs.any id))=some r:=e
  cases h:blsOf ds with
  | none=>rw [h] at e;cases e
  | some ns=>
   rw [h] at e
   cases e
   obtain ⟨a,ys,rfl,qa,la⟩:=a1x.mp rp
   have ey:=la.blsOf h
   subst ey
   exact b5O hc pins s σ H _ us Q I rs ⟨a,ns,rfl,by rw [hK];exact Same.seq sm qa,retS sm q (a0H.mpr rfl)⟩
 | tup _=>cases e
 | str _=>cases e
 | non=>cases e
 | bl _=>cases e
 | int _=>cases e
 | fn _ _=>cases e
 | obj _ _ _=>cases e
theorem a3u (hK:X.K=Γ.K):a2X X (.type "tuple") (spR Γ W (f1 a3F)):=fun pins s σ H xs us Q I rs ⟨Hs,ds,r,sm,rl,e,q,tb⟩=>by
 obtain ⟨d,rfl,e⟩:=a5n e
 obtain ⟨x,rfl,rp⟩:=a7T rl
 cases d with
 | tup ds=>
  cases e
  obtain ⟨a,ys,rfl,qa,la⟩:=a1G.mp rp
  exact a6A pins s σ H _ us Q I rs ⟨a,ys,rfl,.inr ⟨by rw [hK];exact a1E sm qa,retS sm q rp⟩⟩
 | lst ds=>
  cases e
  obtain ⟨a,ys,rfl,qa,la⟩:=a1x.mp rp
  exact a6A pins s σ H _ us Q I rs ⟨a,ys,rfl,.inl ⟨by rw [hK];exact Same.seq sm qa,fun p hp=>b0Q sm q la hp⟩⟩
 | str _=>cases e
 | non=>cases e
 | bl _=>cases e
 | int _=>cases e
 | fn _ _=>cases e
 | obj _ _ _=>cases e
theorem a9g (hK:X.K=Γ.K):a2X X (.type "list") (spR Γ W (f1 b3y)):=fun pins s σ H xs us Q I rs ⟨Hs,ds,r,sm,rl,e,q,tb⟩=>by
 obtain ⟨d,rfl,e⟩:=a5n e
 obtain ⟨x,rfl,rp⟩:=a7T rl
 cases d with
 | tup ds=>
  cases e
  obtain ⟨a,ys,rfl,qa,la⟩:=a1G.mp rp
  exact a6S pins s σ H _ us Q I rs ⟨a,ys,rfl,.inr (by rw [hK];exact a1E sm qa),fun p hp=>a7f sm q la hp⟩
 | lst ds=>
  cases e
  obtain ⟨a,ys,rfl,qa,la⟩:=a1x.mp rp
  exact a6S pins s σ H _ us Q I rs ⟨a,ys,rfl,.inl (by rw [hK];exact Same.seq sm qa),fun p hp=>a7f sm q la hp⟩
 | str _=>cases e
 | non=>cases e
 | bl _=>cases e
 | int _=>cases e
 | fn _ _=>cases e
 | obj _ _ _=>cases e
theorem pd_isN {a:Expr} {g:ME} {j pos pos'} (h:PD X Γ W a g):PD X Γ W (.Compare a [.Is] [.Constant .none j pos'] pos) (eUn dIsN g):=PE.imp (pe_cmp (pc_isN h)) fun _ _ σ H Q _ ⟨B0,B1,Hs,ρ,r,re,e,q⟩=>by
 refine (a1s re e q).mono fun v H1 ⟨Hs1,d,g1,re1,rp,e1,q1⟩=>?_
 cases d with
 | non=>cases e1;rw [a1H.mp rp];exact q1 _ Hs1 H1 (.refl re1.b.i) (RepS.of (a0H.mpr rfl))
 | bl _=>cases e1;rw [a0H.mp rp];exact q1 _ Hs1 H1 (.refl re1.b.i) (RepS.of (a0H.mpr rfl))
 | int _=>cases e1;rw [a0o.mp rp];exact q1 _ Hs1 H1 (.refl re1.b.i) (RepS.of (a0H.mpr rfl))
 | str _=>cases e1;rw [a1l.mp rp];exact q1 _ Hs1 H1 (.refl re1.b.i) (RepS.of (a0H.mpr rfl))
 | tup _=>cases e1;obtain ⟨a,_,rfl,_⟩:=a1G.mp rp;exact q1 _ Hs1 H1 (.refl re1.b.i) (RepS.of (a0H.mpr rfl))
 | lst _=>cases e1;obtain ⟨a,_,rfl,_⟩:=a1x.mp rp;exact q1 _ Hs1 H1 (.refl re1.b.i) (RepS.of (a0H.mpr rfl))
 | fn _ _=>cases e1;obtain ⟨a,_,rfl,_⟩:=a9F.mp rp;exact q1 _ Hs1 H1 (.refl re1.b.i) (RepS.of (a0H.mpr rfl))
 | obj _ _ _=>cases e1;obtain ⟨a,_,_,rfl,_⟩:=a6F.mp rp;exact q1 _ Hs1 H1 (.refl re1.b.i) (RepS.of (a0H.mpr rfl))
theorem ptd_isN {a:Expr} {g:ME} {j pos pos'} (h:PD X Γ W a g):PTD X Γ W (.Compare a [.Is] [.Constant .none j pos'] pos) (eUn dIsN g):=PT.imp (pt_cmp (pc_isN h)) fun _ _ σ H Q _ t=>by
 have t':=tT_of t
 obtain ⟨B0,B1,Hs,ρ,r,re,e,q⟩:=t'
 refine (a1s re e q).mono fun v H1 ⟨Hs1,d,g1,re1,rp,e1,q1⟩=>?_
 cases d with
 | non=>cases e1;rw [a1H.mp rp];exact q1 _ Hs1 H1 (.refl re1.b.i) (RepS.of (a0H.mpr rfl))
 | bl _=>cases e1;rw [a0H.mp rp];exact q1 _ Hs1 H1 (.refl re1.b.i) (RepS.of (a0H.mpr rfl))
 | int _=>cases e1;rw [a0o.mp rp];exact q1 _ Hs1 H1 (.refl re1.b.i) (RepS.of (a0H.mpr rfl))
 | str _=>cases e1;rw [a1l.mp rp];exact q1 _ Hs1 H1 (.refl re1.b.i) (RepS.of (a0H.mpr rfl))
 | tup _=>cases e1;obtain ⟨a,_,rfl,_⟩:=a1G.mp rp;exact q1 _ Hs1 H1 (.refl re1.b.i) (RepS.of (a0H.mpr rfl))
 | lst _=>cases e1;obtain ⟨a,_,rfl,_⟩:=a1x.mp rp;exact q1 _ Hs1 H1 (.refl re1.b.i) (RepS.of (a0H.mpr rfl))
 | fn _ _=>cases e1;obtain ⟨a,_,rfl,_⟩:=a9F.mp rp;exact q1 _ Hs1 H1 (.refl re1.b.i) (RepS.of (a0H.mpr rfl))
 | obj _ _ _=>cases e1;obtain ⟨a,_,_,rfl,_⟩:=a6F.mp rp;exact q1 _ Hs1 H1 (.refl re1.b.i) (RepS.of (a0H.mpr rfl))
def a61 (K:Frag) (T:String):Prop:=∀t∈["NoneType","bool","int","str","tuple","list"],kitOne K (.type t) (.type T)=some (t == T || (t == "bool" && T == "int"))
theorem tD_isT {T:String} {g:ME} (hK:X.K=Γ.K) (h:a61 X.K T) {σ:L2.St} {H:Hp} {Q:VK} (t:tD Γ W (eUn (dIsT T) g) σ H Q):
  tD Γ W g σ H fun x H1=>∃y t U b,[x,V.ty T]=[y,V.ty U]/\(TyOf X.K H1 y (.type t)\/(t = "tuple" /\ ∃a xs,y=.ref a/\SqT X.K H1 a xs)\/(t = "list" /\ ∃a xs,y=.ref a/\SqL X.K H1 a xs))/\kitOne X.K (.type t) (.type U)=some b/\Q (.bl b) H1:=by
 obtain ⟨B0,B1,Hs,ρ,r,re,e,q⟩:=t
 refine (a1s re e q).mono fun v H1 ⟨Hs1,d,g1,re1,rp,e1,q1⟩=>?_
 have fin:∀t:String,dIsT T d=okB (t == T || (t == "bool" && T == "int"))->Q (.bl (t == T || (t == "bool" && T == "int"))) H1:=fun t z=>by
  rw [z] at e1
  cases e1
  exact q1 _ Hs1 H1 (.refl re1.b.i) (RepS.of (a0H.mpr rfl))
 cases d with
 | non=>rw [a1H.mp rp];exact ⟨_,"NoneType",T,_,rfl,.inl .non,h _ (by simp),fin _ rfl⟩
 | bl _=>rw [a0H.mp rp];exact ⟨_,"bool",T,_,rfl,.inl (.bl _),h _ (by simp),fin _ rfl⟩
 | int _=>rw [a0o.mp rp];exact ⟨_,"int",T,_,rfl,.inl (.int _),h _ (by simp),fin _ rfl⟩
 | str _=>rw [a1l.mp rp];exact ⟨_,"str",T,_,rfl,.inl (.str _),h _ (by simp),fin _ rfl⟩
 | tup _=>obtain ⟨a,xs,rfl,qa,_⟩:=a1G.mp rp;exact ⟨_,"tuple",T,_,rfl,.inr (.inl ⟨rfl,a,xs,rfl,by rw [hK];exact a1E re1.b.i qa⟩),h _ (by simp),fin _ rfl⟩
 | lst _=>
  obtain ⟨a,xs,rfl,qa,_⟩:=a1x.mp rp
  exact ⟨_,"list",T,_,rfl,.inr (.inr ⟨rfl,a,xs,rfl,by rw [hK];exact Same.seq re1.b.i qa⟩),h _ (by simp),fin _ rfl⟩
 | fn _ _=>cases e1
 | obj _ _ _=>cases e1
theorem a5R {a:Expr} {g:ME} {T:String} {tn:Str} {p p' pos:Pos} (hK:X.K=Γ.K) (hk:a61 X.K T) (hg:Gl X "isinstance") (hm:X.mg "isinstance" = none) (hg2:Gl X tn) (hm2:X.mg tn=none) (hb:bootBuiltins tn=some (.type T)) (h:PD X Γ W a g)
  (hn:tn ≠ "__name__" := by decide) (hdb:(tn == ("__debug__" : Str))=false:=by decide) (hs1:starEach [a,.Name tn p'] X.env=(false,eval a X.env)::starEach [.Name tn p'] X.env:=by rfl) (hs2:starEach [.Name tn p'] X.env=(false,eval (.Name tn p') X.env)::starEach [] X.env:=by rfl)
  (hpl:(backTo pos (starEach [.Name tn p'] X.env)).any (·.1)=false:=by rfl):PD X Γ W (.Call (.Name "isinstance" p) [a,.Name tn p'] [] pos) (eUn (dIsT T) g):=
 PE.imp (a66 b1A hg hm boot_isinstance (a2j h (a2j (pe_bltn (v:=.ty T) hg2 hm2 hb rfl hn hdb) a5b hs2) hs1) (by decide) (by decide) hs1 hpl) fun _ _ _ _ _ _ t=>tD_isT hK hk t
theorem a9K {a b:Expr} {ga gb:ME} {p p' pos' pos:Pos} (hc:X.calm=true) (hg:Gl X "list") (hm:X.mg "list" = none) (hg2:Gl X "range") (hm2:X.mg "range" = none) (ha:PD X Γ W a ga) (hb:PD X Γ W b gb)
  (hs1:starEach [a,b] X.env=(false,eval a X.env)::starEach [b] X.env:=by rfl) (hs2:starEach [b] X.env=(false,eval b X.env)::starEach [] X.env:=by rfl) (hpl:(backTo pos' (starEach [b] X.env)).any (·.1)=false:=by rfl)
  (hs3:starEach [.Call (.Name "range" p') [a,b] [] pos'] X.env=(false,eval (.Call (.Name "range" p') [a,b] [] pos') X.env)::starEach [] X.env:=by rfl) (hpl2:(backTo pos (starEach [] X.env)).any (·.1)=false:=by rfl):
  PD X Γ W (.Call (.Name "list" p) [.Call (.Name "range" p') [a,b] [] pos'] [] pos) (eBin a6x ga gb):=
 PE.imp (a6g (b0v hc) hg hm boot_list (a2j (a6g b1z hg2 hm2 boot_range (a2j ha (a2j hb a5b hs2) hs1) (by decide) (by decide) hs1 hpl) a5b hs3) (by decide) (by decide) hs3 hpl2) fun _ _ σ H Q _ ⟨B0,B1,Hs,ρ,r,re,e,q⟩=>by
  refine (a1s re e q).mono fun v H1 ⟨Hs1,d,g1,re1,rp,e1,q1⟩=>?_
  refine (a1s re1 e1 q1).mono fun u H2 ⟨Hs2,d2,g2,re2,rp2,e2,q2⟩=>?_
  obtain ⟨lo,hi,rfl,rfl,e2⟩:=a2S (f:=fun lo hi=>if a5L lo=true/\a5L hi=true/\(hi - lo).toNat<=lim then okL (rng lo hi) else none) (fun _ _=>rfl) e2
  obtain ⟨⟨h1,h2,h3⟩,rfl⟩:=a1B e2
  refine ⟨lo,hi,by rw [a0o.mp rp,a0o.mp rp2],fun p hp=>?_⟩
  have sm:=re2.b.i
  refine ⟨p,lo,hi,rfl,a0W,⟨(a4N h1).1,(a4N h1).2,(a4N h2).1,(a4N h2).2⟩,a7q h3,fun l hl=>?_⟩
  have hp2:=sm.free hp
  have g3:Grow Hs2 H2 Hs2 (upd (upd H2 p (.rng lo hi)) l (.lst ((List.range (hi - lo).toNat).map fun k:Nat=>V.int (lo+k)))):=.only sm ((a1v hp).trans (a1v hl))
  have hl2:H2 l=none:=(a1v hp).free hl
  refine q2 _ Hs2 _ g3 ⟨l,_,rfl,hl2,sm.free hl2,a0W,_,rfl,?_⟩
  unfold rng
  exact repL_map _ fun k=>a0o.mpr rfl
end
section
variable {X:Cx} {Γ:Ct} {W:XW} {i:Nat} {x:Str} {e ex:Expr} {ge gx:ME} {px apos cpos pos:Pos}
theorem a9N {i:Nat} {ρ:MEnv} {k:List D->Option Out} {o:Out} (h:ownL i ρ k=some o):∃ds,ρ[i]?=some (some (.own (.lst ds)))/\k ds=some o:=by
 unfold ownL at h
 split at h
 ·rename_i ds hd;exact ⟨ds,hd,h⟩
 ·cases h
theorem a2F (hv:PE X (.Name x px) (tVar i)) (he:PD X Γ W e ge) (hs:starEach [e] X.env=(false,eval e X.env)::starEach [] X.env:=by rfl)
  (hbase:attributeBase (.Name x px) "append" X.env (eval (.Name x px) X.env)=eval (.Name x px) X.env:=by rfl)
  (hfew:((backTo cpos (starEach [e] X.env)).all (fun x=>!x.1) && (backToKw cpos (keywordEach [] X.env)).all (fun x=>x.1.isSome) && decide ([e].length+([]:List Keyword).length+(if ([]:List Keyword).isEmpty then 0 else 1)<30))=true:=by rfl)
  (hline:(apos.endLine == cpos.line)=true:=by rfl) (hplain:(backTo cpos (starEach [] X.env)).any (·.1)=false:=by rfl) (hsw:swapsWith (.Call (.Attribute (.Name x px) "append" apos) [e] [] cpos) none pos.line X.env=pure false:=by rfl):
  PSD X Γ W (.Expr (.Call (.Attribute (.Name x px) "append" apos) [e] [] cpos) pos) (a1m i ge):=
 PS.imp (b4p (pe_bm PySem.F.plainAttrs_list PySem.F.slot_list_append PySem.F.type_list_append a97 hv (a2j he a5b hs) hbase hfew hline hs hplain) hsw) fun pins s σ H En I ⟨B0,B1,Hs,ρ,o,re,eo,q⟩=>by
  obtain ⟨ds,hd,eo⟩:=a9N eo
  obtain ⟨a,ho,e1,e2,e3,e4,xs,rfl,rl⟩:=re.own i _ hd
  refine ⟨.ref a,e1,.inl ⟨rfl,xs,.of e4⟩,(tD_O re eo q).mono fun y H1 ⟨Hs1,s,g1,rs,e5⟩=>?_⟩
  obtain ⟨hl,rfl⟩:=a1B e5
  obtain ⟨Hs2,g2,_,rp⟩:=rs.share g1
  refine ⟨a,xs,y,rfl,rfl,g2.h _ _ e4,by rw [←rl.length];exact lt_of_lt_of_le hl (by decide),q σ Hs2 _ g2.s ((re.grow g2).write hd e1 ⟨_,rfl,(rl.mono g2.s).append (.cons rp .nil)⟩)⟩
end
def W0:XW:=fun _ _ _=>False
theorem a63 {Γ:Ct} {Hs H:Hp} (sm:Same Hs H) {N:List Str} {ds:List D} {vs:List V} (rl:RepL Γ Hs ds vs) (tb:Same Γ.tb Hs):RE Γ Hs H Hs H (L2.start N vs) (a1N N.length ds):=by
 have hl:=rl.length
 have at':∀(i:Nat) (s:S),(a1N N.length ds)[i]?=some (some s)->∃d,s=.sh d/\ds[i]?=some d:=fun i s e=>by
  unfold a1N at e
  by_cases hi:i<ds.length
  ·rw [getElem?_append_left (by simpa using hi),getElem?_map,getElem?_eq_getElem hi] at e
   cases e
   exact ⟨ds[i],rfl,getElem?_eq_getElem hi⟩
  ·rw [getElem?_append_right (by simpa using hi),getElem?_replicate] at e
   split at e <;> cases e
 refine ⟨.refl sm,fun i d e=>?_,fun i o e=>?_,fun i j o u a _ e=>?_,?_,tb⟩
 ·obtain ⟨d',e1,e2⟩:=at' i _ e
  cases e1
  obtain ⟨v,e3,q⟩:=rl.get e2
  refine ⟨v,?_,q⟩
  have hi:i<vs.length:=(List.getElem?_eq_some_iff.mp e3).1
  unfold L2.start
  rw [getElem?_append_left (by simpa using hi),getElem?_map,e3]
  rfl
 ·obtain ⟨_,e1,_⟩:=at' i _ e;cases e1
 ·obtain ⟨_,e1,_⟩:=at' i _ e;cases e1
 ·unfold a1N L2.start
  rw [length_append,length_append,length_map,length_map,length_replicate,length_replicate,hl]
section
variable {P:Program} {w:World} {K:Frag} {mg:Str->Option Value} {base:Heap} {Γ:Ct}
theorem b2c {np n:Nat} {g:MC} {ds:List D} {r:R} (h:fnD np n g ds=some r):ds.length=np/\outR (g (a1N n ds))=some r:=by
 unfold fnD at h
 by_cases z:ds.length=np
 ·rw [if_pos z] at h;exact ⟨z,h⟩
 ·rw [if_neg z] at h;cases h
theorem fn_D {x qual:Str} {st:Stmt} {f:Addr} {fd:FuncData} {N ps:List Str} {k:Nat} {g:MC} (F:Fun K x qual st f fd) (S:a0w N ps (a0g st))
  (body:∀(cdv:Value) (A:Around) (outer:List PySem.Env) (s:Shared) (H:Hp) (E:XK),Room k (A.deeper (envOfC qual (a0g st) s.heap.objs.size f cdv))->PSsD (cxOf CX0 P w K mg base N qual (a0g st) f cdv A outer s H E).nox Γ W0 (a0q st) g):
  FnOk P w K mg base CX0 (k+1) f fd ps (spD Γ W0 (fnD ps.length N.length g)):=by
 refine F.ok S (fun vs H Q E ⟨Hs,ds,r,sm,rl,e,q,tb⟩=>?_) (fun cdv A outer s H vs Q E hr ⟨Hs,ds,r,sm,rl,e,q,tb⟩=>?_)
 ·rw [←rl.length];exact (b2c e).1
 ·obtain ⟨_,e⟩:=b2c e
  refine ⟨tS Γ W0 g,body cdv A outer s H E hr,?_⟩
  cases h:g (a1N N.length ds) with
  | none=>rw [h] at e;cases e
  | some o=>
   rw [h] at e
   refine ⟨Hs,H,Hs,a1N N.length ds,o,a63 sm rl tb,h,?_⟩
   cases o with
   | next ρ'=>cases e;exact fun σ' Hs' H' _ re=>q .non Hs' H' re.b (RepS.of (a1H.mpr rfl))
   | brk ρ'=>cases e
   | cont ρ'=>cases e
   | ret s=>cases e;exact fun v Hs' H' _ g' rs=>q v Hs' H' g' rs
   | exc x=>cases e;exact fun Hs' H' _ g'=>q Hs' H' g'
theorem fn_rec {x qual:Str} {st:Stmt} {f:Addr} {fd:FuncData} {N ps:List Str} {k:Nat} {g:(List D->Option R)->MC} (F:Fun K x qual st f fd) (S:a0w N ps (a0g st))
  (body:∀(G:List D->Option R) (j:Nat),k<=j->FnOk P w K mg base CX0 j f fd ps (spD Γ W0 G)->∀(cdv:Value) (A:Around) (outer:List PySem.Env) (s:Shared) (H:Hp) (E:XK),Room j (A.deeper (envOfC qual (a0g st) s.heap.objs.size f cdv))->PSsD (cxOf CX0 P w K mg base N qual (a0g st) f cdv A outer s H E).nox Γ W0 (a0q st) (g G)):
  ∀n,FnOk P w K mg base CX0 (k+n) f fd ps (spD Γ W0 (n.rec (fun _=>none) fun _ G=>fnD ps.length N.length (g G)))
 | 0=>⟨fun vs H Q E ⟨Hs,ds,r,_,_,e,_,_⟩=>(nomatch e),fun A outer s H args us vs Q E _ _ _ _ ⟨Hs,ds,r,_,_,e,_,_⟩=>(nomatch e)⟩
 | n+1=>fn_D F S (body _ (k+n) (le_add_right _ _) (fn_rec F S body n))
end
theorem b0h (K:Frag):a61 K "tuple" /\ a61 K "list" /\ a61 K "bool" /\ a61 K "int" /\ a61 K "str" := by
 refine ⟨?_,?_,?_,?_,?_⟩ <;>
 ·intro t ht
  have:t = "NoneType" \/ t = "bool" \/ t = "int" \/ t = "str" \/ t = "tuple" \/ t = "list" := by simpa using ht
  rcases this with rfl|rfl|rfl|rfl|rfl|rfl <;> rfl
def FnN (P:Program) (w:World) (K:Frag) (mg:Str->Option Value) (base:Heap) (Γ:Ct) (k:Nat) (x:Str) (ps:List Str) (F:List D->Option R):Prop:=
 ∃f fd,FnOk P w K mg base CX0 k f fd ps (spD Γ W0 F)/\mg x=some (.ref f)/\keepIn K (.ref f)=true/\a5s K fd ps []
section
variable {X:Cx} {Γ:Ct} {k:Nat} {ps:List Str} {x:Str} {p pos:Pos} {e:Expr} {es:List Expr} {gs:List ME} {F:List D->Option R}
theorem a03 (h:FnN X.prog X.w X.K X.mg X.base Γ k x ps F) (hr:Room k X.A) (hg:Gl X x) (ha:PAD X Γ W0 (e::es) gs) (hdb:(x == ("__debug__" : Str))=false:=by decide) (he:starEach (e::es) X.env=(false,eval e X.env)::starEach es X.env:=by rfl) (hpl:(backTo pos (starEach es X.env)).any (·.1)=false:=by rfl):
  PD X Γ W0 (.Call (.Name x p) (e::es) [] pos) (a0l F gs):=by
 obtain ⟨f,fd,G,hm,hk,hb⟩:=h
 exact pd_call G hr hg hm hk hb ha hdb he hpl
end
structure Laid (K:Frag) (mg:Str->Option Value) (x:Str) (st:Stmt) (ps:List Str):Prop where
 ex:∃f fd,Fun K x x st f fd/\mg x=some (.ref f)/\a5s K fd ps []
section
variable {P:Program} {w:World} {K:Frag} {mg:Str->Option Value} {base:Heap} {Γ:Ct}
theorem a1c {x:Str} {st:Stmt} {N ps:List Str} {k:Nat} {g:MC} (L:Laid K mg x st ps) (S:a0w N ps (a0g st))
  (body:∀(f:Addr) (cdv:Value) (A:Around) (outer:List PySem.Env) (s:Shared) (H:Hp) (E:XK),Room k (A.deeper (envOfC x (a0g st) s.heap.objs.size f cdv))->PSsD (cxOf CX0 P w K mg base N x (a0g st) f cdv A outer s H E).nox Γ W0 (a0q st) g):
  FnN P w K mg base Γ (k+1) x ps (fnD ps.length N.length g):=by
 obtain ⟨f,fd,F,hm,hb⟩:=L.ex
 exact ⟨f,fd,fn_D F S (body f),hm,F.kp,hb⟩
theorem b3s {x:Str} {st:Stmt} {N ps:List Str} {k:Nat} {g:(List D->Option R)->MC} (L:Laid K mg x st ps) (S:a0w N ps (a0g st))
  (body:∀(f:Addr) (G:List D->Option R) (j:Nat),k<=j->FnN P w K mg base Γ j x ps G->∀(cdv:Value) (A:Around) (outer:List PySem.Env) (s:Shared) (H:Hp) (E:XK),Room j (A.deeper (envOfC x (a0g st) s.heap.objs.size f cdv))->PSsD (cxOf CX0 P w K mg base N x (a0g st) f cdv A outer s H E).nox Γ W0 (a0q st) (g G)) (n:Nat):
  FnN P w K mg base Γ (k+n) x ps (n.rec (fun _=>none) fun _ G=>fnD ps.length N.length (g G)):=by
 obtain ⟨f,fd,F,hm,hb⟩:=L.ex
 exact ⟨f,fd,fn_rec F S (fun G j hj ok=>body f G j hj ⟨f,fd,ok,hm,F.kp,hb⟩) n,hm,F.kp,hb⟩
theorem a07 {h:Heap} (X:K.In h) (G:h.Ns mainGlobals mg) {x:Str} {st:Stmt} {ps:List Str} {f:Addr} {oc:Value} {od an:Option Addr} {osl:Array (Option Value)} {kV doc pm cdv ct:Value} (a:nsIn K mainGlobals x=some (some (.ref f)))
  (l:K.lookup f=some ⟨oc,od,.func (fnOf x x (a0v st) (a0q st) (a0g st) .none kV doc pm an cdv ct),osl⟩) (c:codeIn K cdv x=true) (k:keepIn K (.ref f)=true)
  (hb:∀(kV doc pm:Value) (an:Option Addr) (cdv ct:Value) (us:List Value),us.length=ps.length->bindArgs (fnOf x x (a0v st) (a0q st) (a0g st) .none kV doc pm an cdv ct) ⟨us,[]⟩=pure (ps.zip us)):Laid K mg x st ps:=
 ⟨f,_,a6Q l c k,mg_of X G a,(a6Q l c k).binds hb⟩
end
theorem a7u (K:Frag):a61 K "tuple" := (b0h K).1
theorem a84 (K:Frag):a61 K "list" := (b0h K).2.1
theorem kit_bool (K:Frag):a61 K "bool" := (b0h K).2.2.1
theorem kit_int (K:Frag):a61 K "int" := (b0h K).2.2.2.1
theorem b49 (K:Frag):a61 K "str" := (b0h K).2.2.2.2
theorem a2h:bootBuiltins "tuple" = some (.type "tuple"):=by decide +kernel
theorem a6b:bootBuiltins "list" = some (.type "list"):=by decide +kernel
theorem bt_bool:bootBuiltins "bool" = some (.type "bool"):=by decide +kernel
theorem bt_int:bootBuiltins "int" = some (.type "int"):=by decide +kernel
theorem bt_str:bootBuiltins "str" = some (.type "str"):=by decide +kernel
theorem bt_sum:bootBuiltins "sum" = some (.builtin "sum"):=by decide +kernel
theorem b5R:bootBuiltins "all" = some (.builtin "all"):=by decide +kernel
theorem bt_any:bootBuiltins "any" = some (.builtin "any"):=by decide +kernel
def spLaw (K:Frag):Sp:=fun vs H Q _=>∃(a:Addr) (ns:List Int),vs=[.ref a]/\SqL K H a (ns.map V.int)/\ns.length<=63/\∀H',Q (.bl true) H'
section
variable {X:Cx} {Γ:Ct} {W:XW}
theorem b4D:OpR X (binaryOp .LShift) (rD Γ W dShl):=fun pins s σ H x y v u Q I rx ry ⟨Hs,d1,d2,r,sm,r1,r2,e,q⟩=>by
 obtain ⟨i,j,rfl,rfl,e⟩:=a2S (f:=fun i j=>if 0<=j/\j<=1000000/\i.natAbs<2 ^ 64 then okI (i * 2 ^ j.toNat) else none) (fun _ _=>rfl) e
 obtain ⟨h,rfl⟩:=a1B e
 exact op_shl pins s σ H x y v u Q I rx ry ⟨i,j,a0o.mp r1,a0o.mp r2,h,retS sm q (a0o.mpr rfl)⟩
theorem b0U:OpR X (binaryOp .Pow) (rD Γ W dPow):=fun pins s σ H x y v u Q I rx ry ⟨Hs,d1,d2,r,sm,r1,r2,e,q⟩=>by
 obtain ⟨i,j,rfl,rfl,e⟩:=a2S (f:=fun i j=>if 0<=j/\j<=1000000/\i.natAbs<2 ^ 64 then okI (i ^ j.toNat) else none) (fun _ _=>rfl) e
 obtain ⟨h,rfl⟩:=a1B e
 exact op_pow pins s σ H x y v u Q I rx ry ⟨i,j,a0o.mp r1,a0o.mp r2,h,retS sm q (a0o.mpr rfl)⟩
theorem bOr_pp {x y:Int} (hx:0<=x) (hy:0<=y):Builtin.bitOr x y=((x.toNat ||| y.toNat:Nat):Int):=by
 obtain ⟨a,rfl⟩:∃a:Nat,x=a:=⟨x.toNat,by omega⟩
 obtain ⟨b,rfl⟩:∃b:Nat,y=b:=⟨y.toNat,by omega⟩
 have h1:¬(0:Int)<=Builtin.bitNot (a:Int):=by unfold Builtin.bitNot;omega
 have h2:¬(0:Int)<=Builtin.bitNot (b:Int):=by unfold Builtin.bitNot;omega
 unfold Builtin.bitOr Builtin.bitAnd
 rw [decide_eq_false h1,decide_eq_false h2]
 dsimp only
 have e1:Builtin.bitNot (Builtin.bitNot (a:Int))=a:=by unfold Builtin.bitNot;omega
 have e2:Builtin.bitNot (Builtin.bitNot (b:Int))=b:=by unfold Builtin.bitNot;omega
 rw [e1,e2]
 simp only [toNat_natCast]
 unfold Builtin.bitNot
 omega
theorem opd_bor:OpR X (binaryOp .BitOr) (rD Γ W dBor):=fun pins s σ H x y v u Q I rx ry ⟨Hs,d1,d2,r,sm,r1,r2,e,q⟩=>by
 obtain ⟨i,j,rfl,rfl,e⟩:=a2S (f:=fun i j=>if 0<=i/\0<=j then okI ((i.toNat ||| j.toNat:Nat):Int) else none) (fun _ _=>rfl) e
 obtain ⟨h,rfl⟩:=a1B e
 exact op_or pins s σ H x y v u Q I rx ry ⟨i,j,a0o.mp r1,a0o.mp r2,by dsimp only;rw [bOr_pp h.1 h.2];exact retS sm q (a0o.mpr rfl)⟩
section
variable {a b c:Expr} {ga gb gc:ME} {pos:Pos}
theorem pd_un {op:UnaryOp} {f:D->Option R} {rr:V->Hp->VK->Prop} (ho:UnR X (unaryOp op) rr) (hf:∀d v Hs H r Q,Same Hs H->Rep Γ Hs d v->f d=some r->RQ Γ W Hs H r Q->rr v H Q) (ha:PD X Γ W a ga):PD X Γ W (.UnaryOp op a pos) (eUn f ga):=
 PE.imp (pe_un ho ha) fun _ _ σ H Q _ t=>by
  obtain ⟨B0,B1,Hs,ρ,r,re,e,q⟩:=t
  exact (a1s re e q).mono fun v H1 ⟨Hs1,d,g1,re1,rp,e1,q1⟩=>hf d v Hs1 H1 r Q re1.b.i rp e1 q1
theorem pd_usub (ha:PD X Γ W a ga):PD X Γ W (.UnaryOp .USub a pos) (eUn dNeg ga):=pd_un un_neg (fun d v Hs H r Q sm rp e q=>by
 cases d with
 | int i=>cases e;exact ⟨i,a0o.mp rp,retS sm q (a0o.mpr rfl)⟩
 | non=>cases e
 | bl _=>cases e
 | str _=>cases e
 | tup _=>cases e
 | lst _=>cases e
 | fn _ _=>cases e
 | obj _ _ _=>cases e) ha
end
theorem repL2 {H:Hp} {d e:D} {xs:List V} (h:RepL Γ H [d,e] xs):∃x y,xs=[x,y]/\Rep Γ H d x/\Rep Γ H e y:=by
 obtain ⟨x,r,e1,q,t⟩:=a00.mp h
 obtain ⟨y,rfl,q2⟩:=a7T t
 exact ⟨x,y,e1,q,q2⟩
theorem cd_min2 (hc:X.calm=true):a2X X (.builtin "min") (spR Γ W (f2 dMin2)):=fun pins s σ H xs us Q I rs ⟨Hs,ds,r,sm,rl,e,q,tb⟩=>by
 obtain ⟨d1,d2,rfl,e⟩:=b5v e
 obtain ⟨x,y,rfl,r1,r2⟩:=repL2 rl
 obtain ⟨i,j,rfl,rfl,e⟩:=a2S (f:=fun i j=>okI (if j<i then j else i)) (fun _ _=>rfl) e
 cases e
 exact b5N hc pins s σ H _ us Q I rs ⟨i,j,by rw [a0o.mp r1,a0o.mp r2],retS sm q (a0o.mpr rfl)⟩
theorem cd_abs:a2X X (.builtin "abs") (spR Γ W (f1 dAbs)):=fun pins s σ H xs us Q I rs ⟨Hs,ds,r,sm,rl,e,q,tb⟩=>by
 obtain ⟨d,rfl,e⟩:=a5n e
 obtain ⟨x,rfl,rp⟩:=a7T rl
 cases d with
 | int i=>cases e;exact call_abs pins s σ H _ us Q I rs ⟨i,by rw [a0o.mp rp],retS sm q (a0o.mpr rfl)⟩
 | non=>cases e
 | bl _=>cases e
 | str _=>cases e
 | tup _=>cases e
 | lst _=>cases e
 | fn _ _=>cases e
 | obj _ _ _=>cases e
theorem cd_int:a2X X (.type "int") (spR Γ W (f1 dInt)):=fun pins s σ H xs us Q I rs ⟨Hs,ds,r,sm,rl,e,q,tb⟩=>by
 obtain ⟨d,rfl,e⟩:=a5n e
 obtain ⟨x,rfl,rp⟩:=a7T rl
 cases d with
 | int i=>cases e;exact b0x pins s σ H _ us Q I rs (.inl ⟨i,by rw [a0o.mp rp],retS sm q (a0o.mpr rfl)⟩)
 | bl b=>cases e;exact b0x pins s σ H _ us Q I rs (.inr ⟨b,by rw [a0H.mp rp],retS sm q (a0o.mpr rfl)⟩)
 | non=>cases e
 | str _=>cases e
 | tup _=>cases e
 | lst _=>cases e
 | fn _ _=>cases e
 | obj _ _ _=>cases e
theorem bt_min:bootBuiltins "min" = some (.builtin "min"):=by decide +kernel
theorem bt_abs:bootBuiltins "abs" = some (.builtin "abs"):=by decide +kernel
end
section
variable {X:Cx} {Γ:Ct} {W:XW}
theorem flat_V {d:D} {v:V} {H:Hp} (r:Rep Γ H d v) (f:flat d=true):a76 v=true:=by
 cases d with
 | non=>rw [a1H.mp r];rfl
 | bl _=>rw [a0H.mp r];rfl
 | int _=>rw [a0o.mp r];rfl
 | str _=>rw [a1l.mp r];rfl
 | tup _=>cases f
 | lst _=>cases f
 | fn _ _=>cases f
 | obj _ _ _=>cases f
theorem eqD_V {d e:D} {v u:V} {H:Hp} (r1:Rep Γ H d v) (r2:Rep Γ H e u) (f1:flat d=true) (f2:flat e=true):eqV v u=eqD d e:=by
 cases d with
 | non=>rw [a1H.mp r1];cases e with
  | non=>rw [a1H.mp r2];rfl
  | bl _=>rw [a0H.mp r2];rfl
  | int _=>rw [a0o.mp r2];rfl
  | str _=>rw [a1l.mp r2];rfl
  | tup _=>cases f2
  | lst _=>cases f2
  | fn _ _=>cases f2
  | obj _ _ _=>cases f2
 | bl _=>rw [a0H.mp r1];cases e with
  | non=>rw [a1H.mp r2];rfl
  | bl _=>rw [a0H.mp r2];rfl
  | int _=>rw [a0o.mp r2];rfl
  | str _=>rw [a1l.mp r2];rfl
  | tup _=>cases f2
  | lst _=>cases f2
  | fn _ _=>cases f2
  | obj _ _ _=>cases f2
 | int _=>rw [a0o.mp r1];cases e with
  | non=>rw [a1H.mp r2];rfl
  | bl _=>rw [a0H.mp r2];rfl
  | int _=>rw [a0o.mp r2];rfl
  | str _=>rw [a1l.mp r2];rfl
  | tup _=>cases f2
  | lst _=>cases f2
  | fn _ _=>cases f2
  | obj _ _ _=>cases f2
 | str _=>rw [a1l.mp r1];cases e with
  | non=>rw [a1H.mp r2];rfl
  | bl _=>rw [a0H.mp r2];rfl
  | int _=>rw [a0o.mp r2];rfl
  | str _=>rw [a1l.mp r2];rfl
  | tup _=>cases f2
  | lst _=>cases f2
  | fn _ _=>cases f2
  | obj _ _ _=>cases f2
 | tup _=>cases f1
 | lst _=>cases f1
 | fn _ _=>cases f1
 | obj _ _ _=>cases f1
theorem inD_V {x:D} {v:V} {H:Hp} (rx:Rep Γ H x v) (fx:flat x=true):∀{ds:List D} {xs:List V},RepL Γ H ds xs->ds.all flat=true->xs.all a76=true/\inV v xs=inD x ds
 | [],xs,h,_=>by rw [a2x.mp h];exact ⟨rfl,rfl⟩
 | d::ds,xs,h,f=>by
  obtain ⟨y,r,rfl,q,t⟩:=a00.mp h
  rw [List.all_cons,and_eq_true] at f
  obtain ⟨i1,i2⟩:=inD_V rx fx t f.2
  refine ⟨by rw [List.all_cons,flat_V q f.1,i1];rfl,?_⟩
  show (eqV y v || inV v r)=(eqD d x || inD x ds)
  rw [eqD_V q rx f.1 fx,i2]
theorem b2k {neg:Bool} {d1 d2:D} {r:R} {Hs H:Hp} {x y:V} {Q:VK} (hK:X.K=Γ.K) (sm:Same Hs H) (r1:Rep Γ Hs d1 x) (r2:Rep Γ Hs d2 y) (e:dIn neg d1 d2=some r) (q:RQ Γ W Hs H r Q):rIn X.K neg x y H Q:=by
 have fin:∀(ds:List D) (p:Addr) (xs:List V),y=.ref p->(SqL X.K H p xs\/SqT X.K H p xs)->RepL Γ Hs ds xs->(if flat d1=true/\ds.all flat=true then okB (if neg then !inD d1 ds else inD d1 ds) else none)=some r->rIn X.K neg x y H Q:=fun ds p xs ey hq rl e=>by
  obtain ⟨⟨h1,h2⟩,rfl⟩:=a1B e
  obtain ⟨i1,i2⟩:=inD_V r1 h1 rl h2
  refine ⟨p,xs,ey,hq,flat_V r1 h1,i1,?_⟩
  rw [i2]
  exact retS sm q (a0H.mpr rfl)
 cases d2 with
 | tup ds=>obtain ⟨p,xs,ey,sq,rl⟩:=a1G.mp r2;exact fin ds p xs ey (.inr (by rw [hK];exact a1E sm sq)) rl e
 | lst ds=>obtain ⟨p,xs,ey,sq,rl⟩:=a1x.mp r2;exact fin ds p xs ey (.inl (by rw [hK];exact Same.seq sm sq)) rl e
 | non=>cases e
 | bl _=>cases e
 | int _=>cases e
 | str _=>cases e
 | fn _ _=>cases e
 | obj _ _ _=>cases e
theorem opd_in (hK:X.K=Γ.K):OpR X (compareOp .In) (rD Γ W (dIn false)):=fun pins s σ H x y v u Q I rx ry ⟨Hs,d1,d2,r,sm,r1,r2,e,q⟩=>b4G pins s σ H x y v u Q I rx ry (b2k hK sm r1 r2 e q)
theorem b4E (hK:X.K=Γ.K):OpR X (compareOp .NotIn) (rD Γ W (dIn true)):=fun pins s σ H x y v u Q I rx ry ⟨Hs,d1,d2,r,sm,r1,r2,e,q⟩=>a9O pins s σ H x y v u Q I rx ry (b2k hK sm r1 r2 e q)
theorem a8C (n d:Nat) (o:Option Int):HT.sIx n d o=sIxD n d o:=by cases o <;> rfl
theorem b2m {H:Hp} {ds:List D} {xs:List V} (rl:RepL Γ H ds xs) (lo hi:Option Int):RepL Γ H (cutD ds lo hi) (cutV xs lo hi):=by
 unfold cutD cutV
 rw [a8C,a8C,←rl.length]
 exact (rl.drop _).take _
def rSlice (Γ:Ct) (W:XW):V->Option Int->Option Int->Hp->VK->Prop:=fun v lo hi H Q=>∃Hs d r,Same Hs H/\Rep Γ Hs d v/\b0p d lo hi=some r/\RQ Γ W Hs H r Q
theorem sld (hK:X.K=Γ.K):SlR X (rSlice Γ W):=fun pins s σ H x v vl vu lo hi sl Q I rx hs pl pu ⟨Hs,d,r,sm,rp,e,q⟩=>by
 cases d with
 | tup ds=>
  obtain ⟨a,xs,rfl,sq,rl⟩:=a1G.mp rp
  have e':(if sIxD ds.length 0 lo=0/\sIxD ds.length ds.length hi=ds.length then none else okD (.tup (cutD ds lo hi)))=some r:=e
  by_cases hw:sIxD ds.length 0 lo=0/\sIxD ds.length ds.length hi=ds.length
  ·rw [if_pos hw] at e';cases e'
  ·rw [if_neg hw] at e'
   cases e'
   exact sl_tup pins s σ H _ v vl vu lo hi sl Q I rx hs pl pu ⟨a,xs,rfl,by rw [hK];exact a1E sm sq,by rw [a8C,a8C,←rl.length];exact hw,fun p hp=>b0Q sm q (b2m rl lo hi) hp⟩
 | lst ds=>
  obtain ⟨a,xs,rfl,sq,rl⟩:=a1x.mp rp
  cases e
  exact sl_list pins s σ H _ v vl vu lo hi sl Q I rx hs pl pu ⟨a,xs,rfl,by rw [hK];exact Same.seq sm sq,fun p hp=>a7f sm q (b2m rl lo hi) hp⟩
 | non=>cases e
 | bl _=>cases e
 | int _=>cases e
 | str _=>cases e
 | fn _ _=>cases e
 | obj _ _ _=>cases e
def tP (Γ:Ct) (W:XW) (o:Option ME):TO:=match o with
 | none=>b3W
 | some g=>tPart (tD Γ W g)
abbrev POD (X:Cx) (Γ:Ct) (W:XW) (e:Option Expr) (o:Option ME):Prop:=PO X e (tP Γ W o)
theorem a65:POD X Γ W none none:=po_none
theorem a64 {e:Expr} {g:ME} (h:PD X Γ W e g):POD X Γ W (some e) (some g):=po_some h
theorem a9L {o:Option ME} {B0 B1 Hs H:Hp} {σ:L2.St} {ρ:MEnv} {k:Option Int->Option R} {r:R} {Q:VK} (re:RE Γ B0 B1 Hs H σ ρ) (e:partD o ρ k=some r) (q:RQ Γ W Hs H r Q) {Q':Option Int->Hp->Prop}
  (h:∀i H1 Hs1,Grow Hs H Hs1 H1->RE Γ B0 B1 Hs1 H1 σ ρ->k i=some r->RQ Γ W Hs1 H1 r Q->Q' i H1):tP Γ W o σ H Q':=by
 cases o with
 | none=>exact h none H Hs (.refl re.b.i) re e q
 | some g=>
  have e':a1h (g ρ) (fun d=>match d with|.int i=>k (some i)|_=>none)=some r:=e
  refine (a1s re e' q).mono fun v H1 ⟨Hs1,d,g1,re1,rp,e1,q1⟩=>?_
  cases d with
  | int i=>exact ⟨i,a0o.mp rp,h (some i) H1 Hs1 g1 re1 e1 q1⟩
  | non=>cases e1
  | bl _=>cases e1
  | str _=>cases e1
  | tup _=>cases e1
  | lst _=>cases e1
  | fn _ _=>cases e1
  | obj _ _ _=>cases e1
theorem a67 {e:Expr} {g:ME} {lo hi:Option Expr} {gl gh:Option ME} {pos p2:Pos} (hK:X.K=Γ.K) (he:PD X Γ W e g) (hl:POD X Γ W lo gl) (hh:POD X Γ W hi gh):PD X Γ W (.Subscript e (.Slice lo hi none p2) pos) (a4Z g gl gh):=
 PE.imp (pe_slice (sld hK) he hl hh) fun _ _ σ H Q _ ⟨B0,B1,Hs,ρ,r,re,e,q⟩=>by
  refine (a1s re e q).mono fun v H1 ⟨Hs1,d,g1,re1,rp,e1,q1⟩=>?_
  refine a9L re1 e1 q1 fun l H2 Hs2 g2 re2 e2 q2=>?_
  refine a9L re2 e2 q2 fun u H3 Hs3 g3 re3 e3 q3=>?_
  exact ⟨Hs3,d,r,re3.b.i,(rp.mono g2.s).mono g3.s,e3,q3⟩
theorem b1V {a:Expr} {g:ME} {j pos pos'} (h:PD X Γ W a g):PTD X Γ W (.Compare a [.IsNot] [.Constant .none j pos'] pos) (eUn b5B g):=PT.imp (pt_cmp (pc_notN h)) fun _ _ σ H Q _ t=>by
 have t':=tT_of t
 obtain ⟨B0,B1,Hs,ρ,r,re,e,q⟩:=t'
 refine (a1s re e q).mono fun v H1 ⟨Hs1,d,g1,re1,rp,e1,q1⟩=>?_
 cases d with
 | non=>cases e1;rw [a1H.mp rp];exact q1 _ Hs1 H1 (.refl re1.b.i) (RepS.of (a0H.mpr rfl))
 | bl _=>cases e1;rw [a0H.mp rp];exact q1 _ Hs1 H1 (.refl re1.b.i) (RepS.of (a0H.mpr rfl))
 | int _=>cases e1;rw [a0o.mp rp];exact q1 _ Hs1 H1 (.refl re1.b.i) (RepS.of (a0H.mpr rfl))
 | str _=>cases e1;rw [a1l.mp rp];exact q1 _ Hs1 H1 (.refl re1.b.i) (RepS.of (a0H.mpr rfl))
 | tup _=>cases e1;obtain ⟨a,_,rfl,_⟩:=a1G.mp rp;exact q1 _ Hs1 H1 (.refl re1.b.i) (RepS.of (a0H.mpr rfl))
 | lst _=>cases e1;obtain ⟨a,_,rfl,_⟩:=a1x.mp rp;exact q1 _ Hs1 H1 (.refl re1.b.i) (RepS.of (a0H.mpr rfl))
 | fn _ _=>cases e1;obtain ⟨a,_,rfl,_⟩:=a9F.mp rp;exact q1 _ Hs1 H1 (.refl re1.b.i) (RepS.of (a0H.mpr rfl))
 | obj _ _ _=>cases e1;obtain ⟨a,_,_,rfl,_⟩:=a6F.mp rp;exact q1 _ Hs1 H1 (.refl re1.b.i) (RepS.of (a0H.mpr rfl))
end
theorem insD_mem (k x:Int):∀l:List Int,x∈insD k l↔x=k\/x∈l
 | []=>by simp [insD]
 | y::r=>by
  unfold insD
  split
  ·simp
  ·split
   ·rename_i h;subst h;simp
   ·rw [mem_cons,insD_mem k x r,mem_cons];constructor
    ·rintro (h|h|h) <;> simp [h]
    ·rintro (h|h|h) <;> simp [h]
theorem b5e (k:Int):∀l:List Int,l.Pairwise (· < ·)->(insD k l).Pairwise (· < ·)
 | [],_=>by simp [insD]
 | y::r,h=>by
  obtain ⟨h1,h2⟩:=pairwise_cons.mp h
  unfold insD
  split
  ·rename_i hk
   refine pairwise_cons.mpr ⟨fun z hz=>?_,h⟩
   rcases mem_cons.mp hz with rfl|hz
   ·exact hk
   ·have:=h1 z hz;omega
  ·split
   ·exact h
   ·refine pairwise_cons.mpr ⟨fun z hz=>?_,b5e k r h2⟩
    rcases (insD_mem k z r).mp hz with rfl|hz
    ·omega
    ·exact h1 z hz
theorem sortD_mem (x:Int):∀l:List Int,x∈a5W l↔x∈l
 | []=>by simp [a5W]
 | y::r=>by
  show x∈insD y (a5W r)↔_
  rw [insD_mem,sortD_mem x r,mem_cons]
theorem b1N:∀l:List Int,(a5W l).Pairwise (· < ·)
 | []=>by simp [a5W]
 | y::r=>b5e y _ (b1N r)
theorem b0e:∀{l m:List Int},l.Pairwise (· < ·)->m.Pairwise (· < ·)->(∀x,x∈l↔x∈m)->l=m
 | [],[],_,_,_=>rfl
 | [],y::m,_,_,h=>by have:=(h y).mpr (mem_cons_self);cases this
 | x::l,[],_,_,h=>by have:=(h x).mp (mem_cons_self);cases this
 | x::l,y::m,h1,h2,h=>by
  obtain ⟨a1,a2⟩:=pairwise_cons.mp h1
  obtain ⟨b1,b2⟩:=pairwise_cons.mp h2
  have e:x=y:=by
   have p:=(h x).mp mem_cons_self
   have q:=(h y).mpr mem_cons_self
   rcases mem_cons.mp p with e|p
   ·exact e
   ·rcases mem_cons.mp q with e|q
    ·exact e.symm
    ·have:=b1 x p;have:=a1 y q;omega
  subst e
  congr 1
  refine b0e a2 b2 fun z=>⟨fun hz=>?_,fun hz=>?_⟩
  ·rcases mem_cons.mp ((h z).mp (mem_cons_of_mem _ hz)) with rfl|q
   ·have:=a1 z hz;omega
   ·exact q
  ·rcases mem_cons.mp ((h z).mpr (mem_cons_of_mem _ hz)) with rfl|q
   ·have:=b1 z hz;omega
   ·exact q
theorem b31 {ns ks l:List Int} (hm:∀n,n∈ks↔n∈ns) (nd:ks.Nodup) (pm:l.Perm ks) (so:l.Pairwise (·<=·)):l=a5W ns:=by
 refine b0e ?_ (b1N ns) fun x=>by rw [sortD_mem,←hm,pm.mem_iff]
 have nd':l.Nodup:=pm.nodup_iff.mpr nd
 have h:=List.Pairwise.and so nd'
 exact h.imp fun {a b} ⟨h1,h2⟩=>by omega
section
variable {X:Cx} {Γ:Ct} {W:XW}
theorem fewD_of {ns:List Int} (h:fewD ns=true):few ns:=by
 unfold fewD at h
 simp only [and_eq_true,decide_eq_true_eq,all_eq_true] at h
 exact ⟨h.1,fun n hn=>by simpa using h.2 n hn⟩
theorem a9J {a:Expr} {g:ME} {p p' pos' pos:Pos} (hK:X.K=Γ.K) (hc:X.calm=true) (hg:Gl X "sorted") (hm:X.mg "sorted" = none) (hg2:Gl X "set") (hm2:X.mg "set" = none) (ha:PD X Γ W a g)
  (hs1:starEach [a] X.env=(false,eval a X.env)::starEach [] X.env:=by rfl) (hpl:(backTo pos' (starEach [] X.env)).any (·.1)=false:=by rfl)
  (hs3:starEach [.Call (.Name "set" p') [a] [] pos'] X.env=(false,eval (.Call (.Name "set" p') [a] [] pos') X.env)::starEach [] X.env:=by rfl) (hpl2:(backTo pos (starEach [] X.env)).any (·.1)=false:=by rfl):
  PD X Γ W (.Call (.Name "sorted" p) [.Call (.Name "set" p') [a] [] pos'] [] pos) (eUn a9c g):=
 PE.imp (a66 (b0t hc) hg hm b0B (a2j (a6g (b5M hc) hg2 hm2 b5T (a2j ha a5b hs1) (by decide) (by decide) hs1 hpl) a5b hs3) (by decide) (by decide) hs3 hpl2) fun _ _ σ H Q _ ⟨B0,B1,Hs,ρ,r,re,e,q⟩=>by
  refine (a1s re e q).mono fun v H1 ⟨Hs1,d,g1,re1,rp,e1,q1⟩=>?_
  cases d with
  | lst ds=>
   have e1:(intsOf ds).bind (fun ns=>if fewD ns=true then okL ((a5W ns).map D.int) else none)=some r:=e1
   cases hi:intsOf ds with
   | none=>rw [hi] at e1;cases e1
   | some ns=>
    rw [hi] at e1
    obtain ⟨hf,rfl⟩:=a1B (c:=fewD ns=true) e1
    obtain ⟨b,xs,rfl,sq,rl⟩:=a1x.mp rp
    have ex:=rl.intsOf hi
    subst ex
    have fw:=fewD_of hf
    have sm:=re1.b.i
    refine ⟨b,ns,rfl,by rw [hK];exact Same.seq sm sq,fw,fun a ks ha hm nd=>?_⟩
    refine ⟨a,ks,rfl,a0W,?_,fun l ms hl pm so=>?_⟩
    ·have:ks.length<=ns.length:=List.Nodup.length_le_of_subset nd fun x hx=>(hm x).mp hx
     have:=fw.1;omega
    ·have hl1:H1 l=none:=(a1v ha).free hl
     have ems:=b31 hm nd pm so
     subst ems
     exact q1 _ Hs1 _ (.only sm ((a1v ha).trans (a1v hl))) ⟨l,_,rfl,hl1,sm.free hl1,a0W,_,rfl,RepL.ints _⟩
  | non=>cases e1
  | bl _=>cases e1
  | int _=>cases e1
  | str _=>cases e1
  | tup _=>cases e1
  | fn _ _=>cases e1
  | obj _ _ _=>cases e1
end
theorem b2e {Γ:Ct} {H:Hp} {f:Str}:∀{ns:List Str} {ds:List D} {xs:List V} {d:D},RepL Γ H ds xs->fldD f ns ds=some d->∃v,(ns.zip xs).lookup f=some v/\Rep Γ H d v
 | [],ds,xs,d,_,e=>by cases ds <;> cases e
 | n::ns,[],xs,d,_,e=>by cases e
 | n::ns,d0::ds,xs,d,r,e=>by
  obtain ⟨x,r',rfl,q,t⟩:=a00.mp r
  unfold fldD at e
  rw [zip_cons_cons,lookup_cons]
  cases h:(f == n) with
  | true=>rw [h] at e;rw [if_pos rfl] at e;cases e;exact ⟨x,rfl,q⟩
  | false=>rw [h] at e;rw [if_neg Bool.false_ne_true] at e;exact b2e t e
theorem a5i {m:Str}:∀{ns:List Str} {xs:List V},ns.contains m=false->(ns.zip xs).lookup m=none
 | [],xs,_=>by cases xs <;> rfl
 | n::ns,[],_=>rfl
 | n::ns,x::xs,h=>by
  rw [List.contains_cons,Bool.or_eq_false_iff] at h
  rw [zip_cons_cons,lookup_cons,h.1]
  exact a5i h.2
section
variable {X:Cx} {Γ:Ct} {W:XW} {e o:Expr} {es:List Expr} {g go:ME} {gs:List ME} {f m x:Str} {p pos apos:Pos}
theorem pd_fld {cs:List String} (hK:X.K=Γ.K) (hC:∀c∈cs,Cls Γ.K (Γ.cls c)/\a2v Γ.K (Γ.cls c) f) (he:PD X Γ W e g) (hb:attributeBase e f X.env (eval e X.env)=eval e X.env:=by rfl):PD X Γ W (.Attribute e f pos) (eUn (dFld cs f) g):=
 PE.imp (pe_fld he hb) fun _ _ σ H Q _ ⟨B0,B1,Hs,ρ,r,re,e,q⟩=>by
  refine (a1s (k:=dFld cs f) re e q).mono fun v H1 ⟨Hs1,d,g1,re1,rp,e1,q1⟩=>?_
  cases d with
  | obj c ns ds=>
   unfold dFld at e1
   by_cases hc:cs.contains c=true
   ·simp only [if_pos hc] at e1
    cases hf:fldD f ns ds with
    | none=>rw [hf] at e1;cases e1
    | some d'=>
     rw [hf] at e1
     cases e1
     obtain ⟨a,dx,xs,rfl,ea,rl⟩:=a6F.mp rp
     obtain ⟨v',hl,rv⟩:=b2e rl hf
     obtain ⟨c1,c2⟩:=hC c (by simpa using hc)
     exact ⟨a,_,dx,_,v',rfl,re1.b.i _ _ ea,hK▸c1,hK▸c2,hl,q1 v' Hs1 H1 (.refl re1.b.i) (RepS.of rv)⟩
   ·simp only [if_neg hc] at e1;cases e1
  | non=>cases e1
  | bl _=>cases e1
  | int _=>cases e1
  | str _=>cases e1
  | tup _=>cases e1
  | lst _=>cases e1
  | fn _ _=>cases e1
end
def b1F (P:Program) (w:World) (K:Frag) (mg:Str->Option Value) (base:Heap) (Γ:Ct) (k:Nat) (m:Str) (ps:List Str) (F:List D->Option R) (cs:List String):Prop:=
 ∃f fd,FnOk P w K mg base CX0 k f fd ps (spD Γ W0 F)/\a5s K fd ps []/\∀c∈cs,Cls K (Γ.cls c)/\Meth K (Γ.cls c) m f
def TabOk (X:Cx) (Γ:Ct) (m:Str) (tb:String->Option (List D->Option R)):Prop:=
 ∀c F,tb c=some F->∃k ps cs,c∈cs/\b1F X.prog X.w X.K X.mg X.base Γ k m ps F cs/\Room k X.A
def tbNil:String->Option (List D->Option R):=fun _=>none
def tbG (cs:List String) (F:List D->Option R) (t:String->Option (List D->Option R)):String->Option (List D->Option R):=fun c=>if cs.contains c=true then some F else t c
section
variable {X:Cx} {Γ:Ct} {e o:Expr} {es:List Expr} {g go:ME} {gs:List ME} {f m x:Str} {p pos apos:Pos} {tb:String->Option (List D->Option R)}
theorem b3U:TabOk X Γ m tbNil:=fun _ _ h=>nomatch h
theorem b1J {k:Nat} {ps:List Str} {F:List D->Option R} {cs:List String} (h:b1F X.prog X.w X.K X.mg X.base Γ k m ps F cs) (r:Room k X.A) (t:TabOk X Γ m tb):TabOk X Γ m (tbG cs F tb):=fun c G e=>by
 unfold tbG at e
 by_cases hc:cs.contains c=true
 ·rw [if_pos hc] at e;cases e;exact ⟨k,ps,cs,by simpa using hc,h,r⟩
 ·rw [if_neg hc] at e;exact t c G e
theorem b3u {d:D} {ρ:MEnv} {r:R} (h:(match d with
 | .obj c ns ds=>if ns.contains m=true then none else (match tb c with
  | some F=>a1e gs ρ fun vs=>F (.obj c ns ds::vs)
  | none=>none)
 | _=>none)=some r):∃c ns ds F,d=.obj c ns ds/\ns.contains m=false/\tb c=some F/\a1e gs ρ (fun vs=>F (.obj c ns ds::vs))=some r:=by
 cases d with
 | obj c ns ds=>
  dsimp only at h
  cases hn:ns.contains m with
  | true=>rw [hn,if_pos rfl] at h;cases h
  | false=>
   rw [hn,if_neg Bool.false_ne_true] at h
   cases ht:tb c with
   | none=>rw [ht] at h;cases h
   | some F=>rw [ht] at h;exact ⟨c,ns,ds,F,rfl,hn,ht,h⟩
 | non=>cases h
 | bl _=>cases h
 | int _=>cases h
 | str _=>cases h
 | tup _=>cases h
 | lst _=>cases h
 | fn _ _=>cases h
theorem b4z {pl:Sem Bool} (T:TabOk X Γ m tb) (he:PD X Γ W0 o go) (ha:PAD X Γ W0 (e::es) gs)
  (hst:starEach (e::es) X.env=(false,eval e X.env)::starEach es X.env:=by rfl) (hpl:(backTo pos (starEach es X.env)).any (·.1)=false:=by rfl)
  (ht:eval (.Call (.Attribute o m apos) (e::es) [] pos) X.env=(do
   let ov ←eval o X.env
   standAt apos.atName
   let (f,first) ←holding [ov] (getMethod ov m pl)
   callWith pos f first (backTo pos (starEach (e::es) X.env)) (backToKw pos (keywordEach [] X.env))):=by rfl):
  PD X Γ W0 (.Call (.Attribute o m apos) (e::es) [] pos) (b3v m tb go gs):=by
 intro pins s σ H Q I ⟨B0,B1,Hs,ρ,r,re,e0,q⟩
 refine PySem.W.methodCall_KW (pl:=pl) (thn (he pins s σ H _ I (a1s re e0 q)) fun u s1 ⟨x,H1,I1,rx,Hs1,d,g1,re1,rp,e1,q1⟩=>?_) ht
 obtain ⟨c,ns,ds,F,rfl,hn,htb,e2⟩:=b3u e1
 obtain ⟨a,dx,xs,rfl,ea,rl⟩:=a6F.mp rp
 obtain rfl:u=Value.ref a:=rx
 obtain ⟨k,ps,cs,hc,⟨f,fd,G,hb,hcs⟩,hr⟩:=T c F htb
 obtain ⟨c1,c2⟩:=hcs c hc
 refine b3p I1 (re1.b.i _ _ ea) c1 c2 (a5i hn) ?_
 refine callWith_K (first:=[.ref a]) (h₀:=X.base) I.ok.mod.kin c2.kp (thn (ha pos pins s1 σ H1 _ I1 (a5r gs re1 e2 q1)) fun us s2 ⟨vs,H2,I2,rr,Hs2,ds2,g2,re2,rps,e3,q2⟩=>⟨I2.kIn,?_⟩) hst hpl
 exact b4j (E:=E0) (dvs:=[]) (us:=.ref a::us) (vs:=.ref a::vs) G hr hb .nil b4C I2 (.cons rfl rr) ⟨Hs2,.obj c ns ds::ds2,r,re2.b.i,by rw [append_nil];exact .cons (rp.mono g2.s) rps,e3,q2,re2.tb⟩
end
structure a7M (a:Addr) (Hs H Hs' H':Hp):Prop where
 s:Same Hs Hs'
 h:∀b o,b≠a->H b=some o->H' b=some o
 i:Same Hs' H'
 n:∀b o,Hs' b=some o->Hs b=some o\/H b=none
theorem Grow.x {a:Addr} {Hs H Hs' H':Hp} (g:Grow Hs H Hs' H'):a7M a Hs H Hs' H':=⟨g.s,fun b o _ e=>g.h b o e,g.i,g.n⟩
theorem a7M.trans {a:Addr} {Hs H Hs1 H1 Hs2 H2:Hp} (x:a7M a Hs H Hs1 H1) (y:a7M a Hs1 H1 Hs2 H2) (ha:Hs1 a=none) (hb:∃o,H1 a=some o):a7M a Hs H Hs2 H2:=
 ⟨x.s.trans y.s,fun b o hb e=>y.h b o hb (x.h b o hb e),y.i,fun b o e=>by
  rcases y.n b o e with z|z
  ·exact x.n b o z
  ·by_cases hba:b=a
   ·subst hba
    obtain ⟨o',ho'⟩:=hb
    rw [ho'] at z;cases z
   ·right
    cases q:H b with
    | none=>rfl
    | some u=>rw [x.h b u hba q] at z;cases z⟩
theorem a7M.none {a:Addr} {Hs H Hs' H':Hp} (g:a7M a Hs H Hs' H') {ho:HO} (h:Hs a=Option.none) (h':H a=some ho):Hs' a=Option.none:=by
 cases q:Hs' a with
 | none=>rfl
 | some u=>
  rcases g.n a u q with z|z
  ·rw [h] at z;cases z
  ·rw [h'] at z;cases z
inductive spI (Γ:Ct) (F:a4U) (vs:List V) (H:Hp) (Q:VK) (E:XK):Prop
 | mk (a:Addr) (xs:List V) (Hs:Hp) (o:O) (ho:HO) (ds:List D) (o':O) (ev:vs=.ref a::xs) (sm:Same Hs H) (hs:Hs a=none) (hh:H a=some ho) (ro:RepO Γ Hs o ho) (rl:RepL Γ Hs ds xs) (e:F o ds=some o')
  (q:∀Hs' H' ho',a7M a Hs H Hs' H'->H' a=some ho'->RepO Γ Hs' o' ho'->Q .non H') (tb:Same Γ.tb Hs)
structure a2p (P:Program) (w:World) (K:Frag) (mg:Str->Option Value) (base:Heap) (Γ:Ct) (k:Nat) (c:String) (x:Str) (ps:List Str) (F:a4U):Prop where
 ex:∃f fd,FnOk P w K mg base CX0 k f fd ps (spI Γ F)/\a5s K fd ps []/\keepIn K (.ref f)=true/\Mk K (Γ.cls c) f/\findCls K (.ref (Γ.cls c)) (.type "type") "__init__" = some (.val (.ref f))
 at_:mg x=some (.ref (Γ.cls c))
 sp:specialIn K (.ref (Γ.cls c)) "__getattribute__" = some (some (.builtin "type.__getattribute__"))
 rd:readsIn K (Γ.cls c) (.type "type")=true
section
variable {X:Cx} {Γ:Ct} {e o:Expr} {es:List Expr} {g go:ME} {gs:List ME} {f m x:Str} {p pos apos:Pos} {k:Nat} {c:String} {ps:List Str} {F:a4U}
theorem b3w {ds:List D} {r:R} (h:(match F (.obj c [] []) ds with
 | some o=>some (R.ok (.own o))
 | none=>none)=some r):∃o,F (.obj c [] []) ds=some o/\r=.ok (.own o):=by
 cases q:F (.obj c [] []) ds with
 | none=>rw [q] at h;cases h
 | some o=>rw [q] at h;cases h;exact ⟨o,rfl,rfl⟩
theorem b4X {Hs H:Hp} {ds:List D} {vs:List V} {r:R} {Q:VK} (sm:Same Hs H) (rl:RepL Γ Hs ds vs) (e:(match F (.obj c [] []) ds with
 | some o=>some (R.ok (.own o))
 | none=>none)=some r) (q:RQ Γ W0 Hs H r Q) (tb:Same Γ.tb Hs):∀x dx,H x=none->H dx=none->dx≠x->
  spI Γ F (.ref x::(vs++[])) (upd (upd H dx (.own x)) x (.ins (Γ.cls c) dx [])) (fun v H2=>v=.non/\Q (.ref x) H2) E0:=by
 intro x dx hx hd ne
 obtain ⟨o,eo,rfl⟩:=b3w e
 have hxs:Hs x=none:=sm.free hx
 have hds:Hs dx=none:=sm.free hd
 refine ⟨x,vs,Hs,.obj c [] [],_,ds,o,by rw [append_nil],fun b u z=>?_,hxs,a0W,⟨dx,[],rfl,.nil⟩,rl,eo,fun Hs' H' ho' gx e' ro=>⟨rfl,?_⟩,tb⟩
 ·rw [a0S (a0O z hxs),a0S (a0O z hds)];exact sm _ _ z
 ·have g:Grow Hs H Hs' H':=⟨gx.s,fun b u z=>gx.h b u (a0O z hx) (by rw [a0S (a0O z hx),a0S (a0O z hd)];exact z),gx.i,fun b u z=>by
   rcases gx.n b u z with y|y
   ·exact .inl y
   ·right
    by_cases hb:b=x
    ·subst hb;exact hx
    ·rw [a0S hb] at y
     by_cases hb':b=dx
     ·subst hb';exact hd
     ·rw [a0S hb'] at y;exact y⟩
  exact q (.ref x) Hs' H' g ⟨x,ho',rfl,hx,gx.none hxs a0W,e',ro⟩
theorem a52 (h:a2p X.prog X.w X.K X.mg X.base Γ k c x ps F) (hr:Room (k+1) X.A) (hg:Gl X x) (ha:PAD X Γ W0 (e::es) gs) (hdb:(x == ("__debug__" : Str))=false:=by decide) (he:starEach (e::es) X.env=(false,eval e X.env)::starEach es X.env:=by rfl)
  (hpl:(backTo pos (starEach es X.env)).any (·.1)=false:=by rfl):PD X Γ W0 (.Call (.Name x p) (e::es) [] pos) (a45 c F gs):=by
 obtain ⟨f,fd,G,hb,_,M,_⟩:=h.ex
 exact PE.imp (pe_make (E:=E0) (dvs:=[]) (ds:=[]) M G hr hg h.at_ hb .nil b4C ha hdb he hpl) fun _ _ σ H Q _ ⟨B0,B1,Hs,ρ,r,re,e,q⟩=>by
  exact a2u gs (fun vs H1 ⟨Hs1,ds,_,re1,rp,e1,q1⟩=>b4X re1.b.i rp e1 q1 re1.tb) (a5r gs re e q)
theorem pd_make0 (h:a2p X.prog X.w X.K X.mg X.base Γ k c x ps F) (hr:Room (k+1) X.A) (hg:Gl X x) (hdb:(x == ("__debug__" : Str))=false:=by decide):PD X Γ W0 (.Call (.Name x p) [] [] pos) (a45 c F []):=by
 obtain ⟨f,fd,G,hb,_,M,_⟩:=h.ex
 exact PE.imp (pe_make0 (E:=E0) (dvs:=[]) (ds:=[]) M G hr hg h.at_ hb .nil b4C hdb) fun _ _ σ H Q _ ⟨B0,B1,Hs,ρ,r,re,e,q⟩=>by
  exact b4X re.b.i .nil e q re.tb
end
inductive tX (Γ:Ct) (g:MG) (D:Ends) (σ:L2.St) (H:Hp):Prop
 | mk (a:Addr) (B0 B1 Hs:Hp) (ρ:MEnv) (o:O) (ho:HO) (o':O) (re:RE Γ B0 B1 Hs H σ ρ) (hb:B1 a=none) (no:∀(i:Nat) (u:O),ρ[i]?≠some (some (.own u))) (h0:σ[0]?=some (some (.ref a))) (hs:Hs a=none) (hh:H a=some ho) (ro:RepO Γ Hs o ho) (e:g ρ o=some o')
  (q:∀Hs' H' ho',a7M a Hs H Hs' H'->H' a=some ho'->RepO Γ Hs' o' ho'->D.nx σ H')
abbrev PXD (X:Cx) (Γ:Ct) (st:Stmt) (g:MG):Prop:=PS X st (tX Γ g)
abbrev PXsD (X:Cx) (Γ:Ct) (st:List Stmt) (g:MG):Prop:=PSs X st (tX Γ g)
theorem RE.growX {Γ:Ct} {B0 B1 Hs H Hs' H':Hp} {σ:L2.St} {ρ:MEnv} {a:Addr} (r:RE Γ B0 B1 Hs H σ ρ) (g:a7M a Hs H Hs' H') (hb:B1 a=none) (no:∀(i:Nat) (u:O),ρ[i]?≠some (some (.own u))) (hs:Hs a=none):RE Γ B0 B1 Hs' H' σ ρ where
 tb:=r.tb.trans g.s
 b:=⟨r.b.s.trans g.s,fun b o e=>g.h b o (a0O e hb) (r.b.h b o e),g.i,fun b o e=>by
  rcases g.n b o e with z|z
  ·exact r.b.n b o z
  ·exact .inr (r.b.h.free z)⟩
 sh:=fun i d e=>let ⟨v,e1,q⟩:=r.sh i d e;⟨v,e1,q.mono g.s⟩
 own:=fun i o e=>absurd e (no i o)
 apart:=r.apart
 len:=r.len
section
variable {X:Cx} {Γ:Ct} {st:Stmt} {rest:List Stmt} {g h:MG} {e o:Expr} {es:List Expr} {ge:ME} {gs:List ME} {f m x y:Str} {p px pos pos' apos cpos:Pos} {k:Nat} {c:String} {ps:List Str} {F:a4U}
theorem a3V:PXsD X Γ [] a6X:=PSs.imp b4o fun D σ H ⟨a,B0,B1,Hs,ρ,o,ho,o',re,hb,no,h0,hs,hh,ro,e,q⟩=>by
 cases e
 exact q Hs H ho (Grow.x (.refl re.b.i)) hh ro
theorem a1I (h1:PXD X Γ st g) (h2:PXsD X Γ rest h):PXsD X Γ (st::rest) (a4O g h):=PSs.imp (b1W h1 h2) fun D σ H ⟨a,B0,B1,Hs,ρ,o,ho,o',re,hb,no,h0,hs,hh,ro,e,q⟩=>by
 unfold a4O at e
 cases z:g ρ o with
 | none=>rw [z] at e;cases e
 | some o1=>
  rw [z] at e
  refine ⟨a,B0,B1,Hs,ρ,o,ho,o1,re,hb,no,h0,hs,hh,ro,z,fun Hs' H' ho' gx hh' ro'=>?_⟩
  exact ⟨a,B0,B1,Hs',ρ,o1,ho',o',re.growX gx hb no hs,hb,no,h0,gx.none hs hh,hh',ro',e,fun Hs2 H2 ho2 gx2 hh2 ro2=>q Hs2 H2 ho2 (gx.trans gx2 (gx.none hs hh) ⟨_,hh'⟩) hh2 ro2⟩
theorem b1U {H:Hp} {y:V} {d:D} (q:Rep Γ H d y):∀{ns:List Str} {ds:List D} {xs:List V},ns.length=ds.length->RepL Γ H ds xs->∃xs',putF f y (ns.zip xs)=(putN f ns).zip xs'/\RepL Γ H (putD f d ns ds) xs'
 | [],ds,xs,hl,r=>by
  refine ⟨[y],?_,.cons q .nil⟩
  cases xs <;> rfl
 | n::ns,[],xs,hl,r=>by cases hl
 | n::ns,d0::ds,xs,hl,r=>by
  obtain ⟨x,r',rfl,qx,t⟩:=a00.mp r
  unfold putN putD
  rw [zip_cons_cons]
  by_cases hn:n=f
  ·rw [if_pos hn,if_pos hn]
   refine ⟨y::r',?_,.cons q t⟩
   show (if n=f then _ else _)=_
   rw [if_pos hn];rfl
  ·rw [if_neg hn,if_neg hn]
   obtain ⟨xs',e1,e2⟩:=b1U q (Nat.succ.inj hl) t
   refine ⟨x::xs',?_,.cons qx e2⟩
   show (if n=f then _ else _)=_
   rw [if_neg hn,e1];rfl
theorem b3n {cs:List String} {ρ:MEnv} {o o':O} (h:a74 cs f ge ρ o=some o'):∃s c ns ds,ge ρ=some (.ok s)/\o=.obj c ns ds/\c∈cs/\ns.length=ds.length/\ns.length<900/\o'=.obj c (putN f ns) (putD f s.val ns ds):=by
 unfold a74 at h
 split at h
 ·rename_i s c ns ds e1
  obtain ⟨⟨h1,h2,h3⟩,h4⟩:=a1B h
  exact ⟨s,c,ns,ds,e1,rfl,by simpa using h1,h2,h3,h4.symm⟩
 ·cases h
theorem a9G {cs:List String} (hK:X.K=Γ.K) (hC:∀c∈cs,Cls Γ.K (Γ.cls c)/\a2v Γ.K (Γ.cls c) f) (hv:PE X (.Name x px) (tVar 0)) (he:PD X Γ W0 e ge) (hs:swapsWith e (some (.Attribute (.Name x px) f pos')) pos.line X.env=pure false:=by rfl):PXD X Γ (.Assign [.Attribute (.Name x px) f pos'] e pos) (a74 cs f ge):=
 PS.imp (ps_fld hv he hs) fun _ _ σ H En _ ⟨a,B0,B1,Hs,ρ,o,ho,o',re,hb,no,h0,hs0,hh,ro,e,q⟩=>by
  obtain ⟨s,c,ns,ds,e1,rfl,hc,hl,h9,rfl⟩:=b3n e
  refine ⟨B0,B1,Hs,ρ,_,re,e1,fun v Hs' H' g' rs=>?_⟩
  obtain ⟨Hs2,g2,_,rp⟩:=rs.share g'
  obtain ⟨dx,xs,rfl,rl⟩:=ro
  obtain ⟨c1,c2⟩:=hC c hc
  obtain ⟨xs',e2,r2⟩:=b1U (f:=f) rp hl (rl.mono g2.s)
  have hs2:Hs2 a=none:=g2.none hs0 hh
  refine ⟨.ref a,h0,a,_,dx,_,rfl,g2.h _ _ hh,hK▸c1,hK▸c2,?_,?_⟩
  ·rw [List.length_zip];exact lt_of_le_of_lt (Nat.min_le_left _ _) (Nat.lt_trans h9 (by decide))
  ·refine q Hs2 _ _ ⟨g2.s,fun b u hb e=>?_,fun b u e=>?_,g2.n⟩ a0W ⟨dx,xs',by rw [e2],r2⟩
   ·rw [a0S hb];exact g2.h _ _ e
   ·rw [a0S (a0O e hs2)];exact g2.i _ _ e
theorem a8s:∀(gs:List ME) {B0 B1 Hs H:Hp} {σ:L2.St} {ρ:MEnv} {ds:List D},RE Γ B0 B1 Hs H σ ρ->a6w gs ρ=some ds->b1D Γ W0 gs σ H (fun vs H1=>∃Hs1,Grow Hs H Hs1 H1/\RepL Γ Hs1 ds vs)
 | [],B0,B1,Hs,H,σ,ρ,ds,re,e=>by
  cases e
  exact ⟨Hs,.refl re.b.i,.nil⟩
 | g::gs,B0,B1,Hs,H,σ,ρ,ds,re,e=>by
  unfold a6w at e
  split at e
  ·rename_i s hs
   cases z:a6w gs ρ with
   | none=>rw [z] at e;cases e
   | some ds'=>
    rw [z] at e
    cases e
    refine ⟨B0,B1,Hs,ρ,_,re,hs,fun v Hs' H' g' rs=>?_⟩
    obtain ⟨Hs2,g2,_,rp⟩:=rs.share g'
    refine a2u gs (fun vs H2 ⟨Hs3,g3,rl⟩=>?_) (a8s gs (re.grow g2) z)
    exact ⟨Hs3,g2.trans g3,.cons (rp.mono g3.s) rl⟩
  ·cases e
theorem pe_base {t:TA} {pl:Sem Bool} {fa:Addr} {fd:FuncData} {sp:Sp} {C:Addr} (G:FnOk X.prog X.w X.K X.mg X.base CX0 k fa fd ps sp) (hb:a5s X.K fd ps []) (hk:keepIn X.K (.ref fa)=true) (hf:findCls X.K (.ref C) (.type "type") m=some (.val (.ref fa)))
  (hm:X.mg x=some (.ref C)) (hsp:specialIn X.K (.ref C) "__getattribute__" = some (some (.builtin "type.__getattribute__"))) (hrd:readsIn X.K C (.type "type")=true) (hr:Room k X.A) (hg:Gl X x) (ha:PA X (e::es) t)
  (hdb:(x == ("__debug__" : Str))=false:=by decide) (hst:starEach (e::es) X.env=(false,eval e X.env)::starEach es X.env:=by rfl) (hpl:(backTo pos (starEach es X.env)).any (·.1)=false:=by rfl)
  (ht:eval (.Call (.Attribute (.Name x p) m apos) (e::es) [] pos) X.env=(do
   let ov ←eval (.Name x p) X.env
   standAt apos.atName
   let (f,first) ←holding [ov] (getMethod ov m pl)
   callWith pos f first (backTo pos (starEach (e::es) X.env)) (backToKw pos (keywordEach [] X.env))):=by rfl):
  PE X (.Call (.Attribute (.Name x p) m apos) (e::es) [] pos) (tCall sp [] E0 t):=by
 intro pins s σ H Q I h
 refine PySem.W.methodCall_KW (pl:=pl) (a80 I hg hm ?_ hdb) ht
 refine PySem.W.method_cls I.kIn hsp (PySem.W.cls_value I.kIn hrd hf (by rfl) ?_)
 have I1:=I.tok (s.toks+1)
 refine callWith_K (first:=[]) (h₀:=X.base) I.ok.mod.kin hk (thn (ha pos pins _ σ H _ I1 h) fun us s2 ⟨vs,H2,I2,rr,q2⟩=>⟨I2.kIn,?_⟩) hst hpl
 exact b4j (E:=E0) (ds:=[]) (dvs:=[]) G hr hb .nil b4C I2 rr q2
theorem a4m {pl:Sem Bool} (h:a2p X.prog X.w X.K X.mg X.base Γ k c x ps F) (hr:Room k X.A) (hg:Gl X x) (hv:PE X (.Name y px) (tVar 0)) (ha:PAD X Γ W0 es gs)
  (hsw:swapsWith (.Call (.Attribute (.Name x p) "__init__" apos) (.Name y px::es) [] cpos) none pos.line X.env=pure false:=by rfl)
  (hdb:(x == ("__debug__" : Str))=false:=by decide) (hst:starEach (.Name y px::es) X.env=(false,eval (.Name y px) X.env)::starEach es X.env:=by rfl) (hpl:(backTo cpos (starEach es X.env)).any (·.1)=false:=by rfl)
  (ht:eval (.Call (.Attribute (.Name x p) "__init__" apos) (.Name y px::es) [] cpos) X.env=(do
   let ov ←eval (.Name x p) X.env
   standAt apos.atName
   let (f,first) ←holding [ov] (getMethod ov "__init__" pl)
   callWith cpos f first (backTo cpos (starEach (.Name y px::es) X.env)) (backToKw cpos (keywordEach [] X.env))):=by rfl):
  PXD X Γ (.Expr (.Call (.Attribute (.Name x p) "__init__" apos) (.Name y px::es) [] cpos) pos) (a5M F gs):=by
 obtain ⟨fa,fd,G,hb,hk,M,hf⟩:=h.ex
 exact PS.imp (b4p (pe_base (pl:=pl) G hb hk hf h.at_ h.sp h.rd hr hg (a2j hv ha hst) hdb hst hpl ht) hsw) fun _ _ σ H En _ ⟨a,B0,B1,Hs,ρ,o,ho,o',re,hb,no,h0,hs0,hh,ro,e,q⟩=>by
  unfold a5M at e
  cases z:a6w gs ρ with
  | none=>rw [z] at e;cases e
  | some ds=>
   rw [z] at e
   refine ⟨.ref a,h0,a2u gs (fun vs H1 ⟨Hs1,g1,rl⟩=>?_) (a8s gs re z)⟩
   refine ⟨a,vs,Hs1,o,ho,ds,o',by rw [append_nil],g1.i,g1.none hs0 hh,g1.h _ _ hh,ro.mono g1.s,rl,e,fun Hs' H' ho' gx hh' ro'=>?_,re.tb.trans g1.s⟩
   exact q Hs' H' ho' (a7M.trans (Grow.x g1) gx (g1.none hs0 hh) ⟨_,g1.h _ _ hh⟩) hh' ro'
end
theorem b4m {Γ:Ct} {Hs H:Hp} (sm:Same Hs H) {N:List Str} {ds:List D} {vs:List V} {v0:V} (hN:0<N.length) (rl:RepL Γ Hs ds vs) (tb:Same Γ.tb Hs):RE Γ Hs Hs Hs H (L2.start N (v0::vs)) (none::a1N (N.length - 1) ds):=by
 have q:=a63 (Γ:=Γ) sm (N:=N.tail) rl tb
 have e1:L2.start N (v0::vs)=some v0::L2.start N.tail vs:=by
  unfold L2.start
  rw [map_cons,length_cons,List.length_tail,cons_append]
  congr 3
  omega
 have e2:N.tail.length=N.length - 1:=List.length_tail
 rw [e2] at q
 rw [e1]
 refine ⟨⟨.refl _,sm,sm,fun _ _ z=>.inl z⟩,fun i d e=>?_,fun i o e=>?_,fun i j o u a ij e f=>?_,by rw [length_cons,length_cons,q.len],tb⟩
 ·cases i with
  | zero=>cases e
  | succ i=>exact q.sh i d e
 ·cases i with
  | zero=>cases e
  | succ i=>
   obtain ⟨a,ho,f1,f2,f3,f4,f5⟩:=q.own i o e
   exact ⟨a,ho,f1,sm.free f2,f3,f4,f5⟩
 ·cases i with
  | zero=>cases e
  | succ i=>
   cases j with
   | zero=>cases f
   | succ j=>exact q.apart i j o u a (fun z=>ij (by rw [z])) e f
theorem b3Z (n:Nat) (ds:List D) (i:Nat) (u:O):(none::a1N n ds)[i]?≠some (some (.own u)):=by
 cases i with
 | zero=>intro e;cases e
 | succ i=>
  intro e
  have e:(a1N n ds)[i]?=some (some (.own u)):=e
  unfold a1N at e
  by_cases hi:i<ds.length
  ·rw [getElem?_append_left (by simpa using hi),getElem?_map,getElem?_eq_getElem hi] at e
   cases e
  ·rw [getElem?_append_right (by simpa using hi),getElem?_replicate] at e
   split at e <;> cases e
theorem fn_I {P:Program} {w:World} {K:Frag} {mg:Str->Option Value} {base:Heap} {Γ:Ct} {x qual:Str} {st:Stmt} {f:Addr} {fd:FuncData} {N ps:List Str} {k:Nat} {g:MG} (F:Fun K x qual st f fd) (S:a0w N ps (a0g st)) (hN:0<N.length)
  (body:∀(cdv:Value) (A:Around) (outer:List PySem.Env) (s:Shared) (H:Hp) (E:XK),Room k (A.deeper (envOfC qual (a0g st) s.heap.objs.size f cdv))->PXsD (cxOf CX0 P w K mg base N qual (a0g st) f cdv A outer s H E).nox Γ (a0q st) g):
  FnOk P w K mg base CX0 (k+1) f fd ps (spI Γ (fnI ps.length N.length g)):=by
 refine F.ok S (fun vs H Q E ⟨a,xs,Hs,o,ho,ds,o',ev,sm,hs,hh,ro,rl,e,q,tb⟩=>?_) (fun cdv A outer s H vs Q E hr ⟨a,xs,Hs,o,ho,ds,o',ev,sm,hs,hh,ro,rl,e,q,tb⟩=>?_)
 ·subst ev
  unfold fnI at e
  obtain ⟨h1,_⟩:ds.length+1=ps.length/\True:=by
   by_cases z:ds.length+1=ps.length
   ·exact ⟨z,trivial⟩
   ·rw [if_neg z] at e;cases e
  rw [length_cons,←rl.length,h1]
 ·subst ev
  unfold fnI at e
  by_cases z:ds.length+1=ps.length
  ·rw [if_pos z] at e
   refine ⟨tX Γ g,body cdv A outer s H E hr,a,Hs,Hs,Hs,_,o,ho,o',b4m sm hN rl tb,hs,b3Z _ _,?_,hs,hh,ro,e,q⟩
   rfl
  ·rw [if_neg z] at e;cases e
section
variable {X:Cx} {Γ:Ct} {W:XW} {i:Nat} {x:Str} {e ek:Expr} {ge gk:ME} {px tpos pos:Pos}
theorem ixD_N {n j:Nat} {k:Int} (h:ixD n k=some j):ixN n k=some j:=h
theorem a4K (hv:PE X (.Name x px) (tVar i)) (hk:PD X Γ W ek gk) (he:PD X Γ W e ge)
  (ha:∀v,assign (.Subscript (.Name x px) ek tpos) X.env v=(do
   let ov ←holding [v] (eval (.Name x px) X.env)
   let iv ←holding [v,ov] (eval ek X.env)
   standAt tpos
   holding [v,ov,iv] (setItem ov iv v)
   release [v,ov,iv] []):=by intro _;rfl)
  (hs:swapsWithSole [.Subscript (.Name x px) ek tpos] e pos.line X.env=pure false:=by rfl) (hw:swappedStores [.Subscript (.Name x px) ek tpos] e X.env=pure none:=by rfl)
  (h1:(assignEach [.Subscript (.Name x px) ek tpos] X.env).map (·.2)=[assign (.Subscript (.Name x px) ek tpos) X.env]:=by rfl):PSD X Γ W (.Assign [.Subscript (.Name x px) ek tpos] e pos) (a4h i gk ge):=
 PS.imp (ps_asg he (pg_sub hv hk set_list ha) hs hw h1) fun pins s σ H En I ⟨B0,B1,Hs,ρ,o,re,eo,q⟩=>by
  refine (tD_O re eo q).mono fun y H1 ⟨Hs1,s,g1,rs,e5⟩=>?_
  obtain ⟨Hs2,g2,_,rp⟩:=rs.share g1
  obtain ⟨ds,hd,e6⟩:=a9N e5
  have re2:=re.grow g2
  obtain ⟨a,ho,f1,f2,f3,f4,xs,rfl,rl⟩:=re2.own i _ hd
  refine ⟨.ref a,f1,(tD_O re2 e6 (q.from g2.s)).mono fun z H3 ⟨Hs3,sz,g3,rz,e7⟩=>?_⟩
  obtain ⟨Hs4,g4,_,rzp⟩:=rz.share g3
  cases hz:sz.val with
  | int j=>
   rw [hz] at e7 rzp
   dsimp only at e7
   cases hx:ixD ds.length j with
   | none=>rw [hx] at e7;cases e7
   | some n=>
    rw [hx] at e7
    cases e7
    refine ⟨a,xs,j,n,rfl,a0o.mp rzp,g4.h _ _ f4,by rw [←rl.length];exact ixD_N hx,?_⟩
    exact q σ Hs4 _ (g2.s.trans g4.s) ((re2.grow g4).write hd f1 ⟨_,rfl,(rl.mono g4.s).set (rp.mono g4.s) n⟩)
  | non=>rw [hz] at e7;cases e7
  | bl _=>rw [hz] at e7;cases e7
  | str _=>rw [hz] at e7;cases e7
  | tup _=>rw [hz] at e7;cases e7
  | lst _=>rw [hz] at e7;cases e7
  | fn _ _=>rw [hz] at e7;cases e7
  | obj _ _ _=>rw [hz] at e7;cases e7
theorem pd_ixB {a b:Expr} {ga gb:ME} {pos:Pos} (hK:X.K=Γ.K) (ha:PL X Γ W a ga) (hb:PL X Γ W b gb) (hs:b1E b:=by exact fun _ _=>rfl):PD X Γ W (.Subscript a b pos) (a0r (f2 dIx) [ga,gb]):=
 PE.imp (pe_ix (ixd (W:=W) hK) ha hb hs) fun _ _ σ H Q _ t=>by
  refine tL.mono (b1K t) fun x H1 t1=>tL.mono t1 fun y H2 t2=>?_
  obtain ⟨Hs,ds,r,sm,rl,e,q,tb⟩:=t2
  obtain ⟨d,d',rfl,e'⟩:=b5v e
  obtain ⟨x1,r1,e1,q1,t1⟩:=a00.mp rl
  obtain ⟨y1,e2,q2⟩:=a7T t1
  subst e2
  cases e1
  exact ⟨Hs,d,d',r,sm,q1,q2,e',q⟩
end
structure b3K (K:Frag) (cls:String->Addr) (m qual:Str) (st:Stmt) (ps:List Str) (cs:List String):Prop where
 ex:∃f fd,Fun K m qual st f fd/\a5s K fd ps []/\∀c∈cs,Cls K (cls c)/\Meth K (cls c) m f
structure a3K (K:Frag) (mg:Str->Option Value) (cls:String->Addr) (c:String) (x qual:Str) (st:Stmt) (ps:List Str):Prop where
 ex:∃f fd,Fun K "__init__" qual st f fd/\a5s K fd ps []/\Mk K (cls c) f/\findCls K (.ref (cls c)) (.type "type") "__init__" = some (.val (.ref f))
 at_:mg x=some (.ref (cls c))
 sp:specialIn K (.ref (cls c)) "__getattribute__" = some (some (.builtin "type.__getattribute__"))
 rd:readsIn K (cls c) (.type "type")=true
section
variable {P:Program} {w:World} {K:Frag} {mg:Str->Option Value} {base:Heap} {Γ:Ct}
theorem a98 {x qual:Str} {st:Stmt} {N ps:List Str} {k:Nat} {g:MC} {cs:List String} (L:b3K K Γ.cls x qual st ps cs) (S:a0w N ps (a0g st))
  (body:∀(f:Addr) (cdv:Value) (A:Around) (outer:List PySem.Env) (s:Shared) (H:Hp) (E:XK),Room k (A.deeper (envOfC qual (a0g st) s.heap.objs.size f cdv))->PSsD (cxOf CX0 P w K mg base N qual (a0g st) f cdv A outer s H E).nox Γ W0 (a0q st) g):
  b1F P w K mg base Γ (k+1) x ps (fnD ps.length N.length g) cs:=by
 obtain ⟨f,fd,F,hb,hc⟩:=L.ex
 exact ⟨f,fd,fn_D F S (body f),hb,hc⟩
theorem a1W {x qual:Str} {c:String} {st:Stmt} {N ps:List Str} {k:Nat} {g:MG} (L:a3K K mg Γ.cls c x qual st ps) (S:a0w N ps (a0g st)) (hN:0<N.length)
  (body:∀(f:Addr) (cdv:Value) (A:Around) (outer:List PySem.Env) (s:Shared) (H:Hp) (E:XK),Room k (A.deeper (envOfC qual (a0g st) s.heap.objs.size f cdv))->PXsD (cxOf CX0 P w K mg base N qual (a0g st) f cdv A outer s H E).nox Γ (a0q st) g):
  a2p P w K mg base Γ (k+1) c x ps (fnI ps.length N.length g):=by
 obtain ⟨f,fd,F,hb,hm,hf⟩:=L.ex
 exact ⟨⟨f,fd,fn_I F S hN (body f),hb,F.kp,hm,hf⟩,L.at_,L.sp,L.rd⟩
theorem b15 {cls:String->Addr} {x qual:Str} {st:Stmt} {ps:List Str} {f:Addr} {oc:Value} {od an:Option Addr} {osl:Array (Option Value)} {kV doc pm cdv ct:Value} {cs:List String}
  (l:K.lookup f=some ⟨oc,od,.func (fnOf x qual (a0v st) (a0q st) (a0g st) .none kV doc pm an cdv ct),osl⟩) (c:codeIn K cdv qual=true) (k:keepIn K (.ref f)=true) (i:isFn K (.ref f)=true)
  (hb:∀(kV doc pm:Value) (an:Option Addr) (cdv ct:Value) (us:List Value),us.length=ps.length->bindArgs (fnOf x qual (a0v st) (a0q st) (a0g st) .none kV doc pm an cdv ct) ⟨us,[]⟩=pure (ps.zip us))
  (hc:∀c∈cs,Cls K (cls c)/\findIn K (.ref (cls c)) x=some (some (.ref f))):b3K K cls x qual st ps cs:=
 ⟨f,_,a6Q l c k,(a6Q l c k).binds hb,fun c h=>⟨(hc c h).1,(hc c h).2,i,k⟩⟩
theorem a2Q {h:Heap} (X:K.In h) (G:h.Ns mainGlobals mg) {cls:String->Addr} {cn:String} {C:Addr} (ec:cls cn=C) {x qual:Str} {st:Stmt} {ps:List Str} {f:Addr} {oc:Value} {od an:Option Addr} {osl:Array (Option Value)} {kV doc pm cdv ct:Value}
  (a:nsIn K mainGlobals x=some (some (.ref C))) (fi:findIn K (.ref C) "__init__" = some (some (.ref f)))
  (l:K.lookup f=some ⟨oc,od,.func (fnOf "__init__" qual (a0v st) (a0q st) (a0g st) .none kV doc pm an cdv ct),osl⟩) (c:codeIn K cdv qual=true) (k:keepIn K (.ref f)=true) (i:isFn K (.ref f)=true)
  (mk:makesIn K C=true) (kc:keepIn K (.ref C)=true) (fc:findCls K (.ref C) (.type "type") "__init__" = some (.val (.ref f)))
  (sp:specialIn K (.ref C) "__getattribute__" = some (some (.builtin "type.__getattribute__"))) (rd:readsIn K C (.type "type")=true)
  (hb:∀(kV doc pm:Value) (an:Option Addr) (cdv ct:Value) (us:List Value),us.length=ps.length->bindArgs (fnOf "__init__" qual (a0v st) (a0q st) (a0g st) .none kV doc pm an cdv ct) ⟨us,[]⟩=pure (ps.zip us)):a3K K mg cls cn x qual st ps:=by
 subst ec
 exact ⟨⟨f,_,a6Q l c k,(a6Q l c k).binds hb,⟨mk,fi,i,kc⟩,fc⟩,mg_of X G a,sp,rd⟩
end
theorem a6c {α:Type} {p:α->Prop}:∀c∈([]:List α),p c:=fun _ h=>nomatch h
theorem all_cons {α:Type} {p:α->Prop} {a:α} {l:List α} (h:p a) (t:∀c∈l,p c):∀c∈a::l,p c:=fun c hc=>by
 rcases mem_cons.mp hc with rfl|h'
 ·exact h
 ·exact t c h'
def clsF:List (String×Addr)->String->Addr
 | [],_=>0
 | (c,a)::r,s=>if s=c then a else clsF r s
theorem a4b {c:String} {a:Addr} {r:List (String×Addr)}:clsF ((c,a)::r) c=a:=by unfold clsF;rw [if_pos rfl]
theorem a0z {c s:String} {a b:Addr} {r:List (String×Addr)} (h:s≠c) (t:clsF r s=b):clsF ((c,a)::r) s=b:=by unfold clsF;rw [if_neg h];exact t
structure IsTab (K:Frag) (cls:String->Addr) (C:Addr) (mg:Str->Option Value) (x:Str) (tb:String->Option Bool):Prop where
 ok:∀c b,tb c=some b->Cls K (cls c)/\(findIn K (.ref (cls c)) "__class__" = some (some (.builtin "object.__class__"))/\specialIn K (.builtin "object.__class__") "__get__" = some (some (.builtin "getset_descriptor.__get__"))/\takesIn K (.builtin "object.__class__")=some true/\mroIn K (cls c) (.type "object")=some true)/\kitOne K (.ref (cls c)) (.ref C)=some b
 at_:mg x=some (.ref C)
section
variable {X:Cx} {Γ:Ct} {W:XW}
end
section
variable {X:Cx} {Γ:Ct} {W:XW}
end
section
variable {X:Cx} {Γ:Ct} {W:XW} {es:List Expr} {gs:List ME} {g:ME} {pos:Pos}
theorem padC {c j} (h:PD X Γ W (.Constant c j pos) g) (t:PAD X Γ W es gs):PAD X Γ W (.Constant c j pos::es) (g::gs):=a1j h t rfl
theorem padN {x} (h:PD X Γ W (.Name x pos) g) (t:PAD X Γ W es gs):PAD X Γ W (.Name x pos::es) (g::gs):=a1j h t rfl
theorem padB {a op b} (h:PD X Γ W (.BinOp a op b pos) g) (t:PAD X Γ W es gs):PAD X Γ W (.BinOp a op b pos::es) (g::gs):=a1j h t rfl
theorem padS {a b} (h:PD X Γ W (.Subscript a b pos) g) (t:PAD X Γ W es gs):PAD X Γ W (.Subscript a b pos::es) (g::gs):=a1j h t rfl
theorem padK {f as ks} (h:PD X Γ W (.Call f as ks pos) g) (t:PAD X Γ W es gs):PAD X Γ W (.Call f as ks pos::es) (g::gs):=a1j h t rfl
theorem padT {xs c} (h:PD X Γ W (.Tuple xs c pos) g) (t:PAD X Γ W es gs):PAD X Γ W (.Tuple xs c pos::es) (g::gs):=a1j h t rfl
theorem padU {op a} (h:PD X Γ W (.UnaryOp op a pos) g) (t:PAD X Γ W es gs):PAD X Γ W (.UnaryOp op a pos::es) (g::gs):=a1j h t rfl
end
def constD:PySem.Expr->Option D
 | .Constant (.str s) _ _=>some (.str s)
 | .Constant (.int i) _ _=>some (.int i)
 | _=>none
def dsOf:List PySem.Expr->Option (List D)
 | []=>some []
 | e::es=>match constD e,dsOf es with
  | some d,some ds=>some (d::ds)
  | _,_=>none
section
variable {X:Cx} {Γ:Ct} {W:XW} {a b:Expr} {ga gb:ME} {pos:Pos}
end
section
variable {X:Cx} {Γ:Ct} {W:XW}
theorem psS {i:Nat} {x:Str} {pos' pos:Pos} {e:Expr} {ge:ME} (hN:X.N.Nodup) (hi:X.N[i]?=some x) (he:PD X Γ W e ge) (hx:Loc X.env.scope x:=by first|exact Or.inl rfl|exact Or.inr rfl) (hs:swapsWith e (some (.Name x pos')) pos.line X.env=pure false:=by rfl)
  (hf:X.fn x=true\/X.env.scope.names.lookup x=some .local:=by first|exact .inl rfl|exact .inr rfl|assumption):PSD X Γ W (.Assign [.Name x pos'] e pos) (sSet i ge):=psd_set hN hi hx he hs hf
theorem pbN {j:Nat} {x:Str} {pos:Pos} (hN:X.N.Nodup) (hi:X.N[j]?=some x) (hx:Loc X.env.scope x:=by first|exact Or.inl rfl|exact Or.inr rfl) (hf:X.fn x=true\/X.env.scope.names.lookup x=some .local:=by first|exact .inl rfl|exact .inr rfl|assumption):PBD X Γ (.Name x pos) [j] (a09 j):=pbd_name hN hi hx hf
end
end L3
namespace L3
open PySem PySem.Spec PyProof.Rows L2 PySem.SeqAt
section
variable {X:Cx} {Γ:Ct} {W:XW} {pins:List (Addr×Obj)} {σ:L2.St} {H:Hp} {s:Shared}
end
section
variable {X:Cx} {Γ:Ct} {W:XW} {pins:List (Addr×Obj)} {σ:L2.St} {H:Hp} {s:Shared}
end
section
variable {X:Cx} {Γ:Ct} {W:XW}
variable {i:Nat} {x:Str} {px apos cpos pos:Pos}
end
end L3
namespace L3
open PySem PySem.Spec PyProof.Rows L2 PySem.W
def Clo (L:LamT) (H:Hp) (a:Addr) (xs:List V):Prop:=
 ∃(cs:List Addr) (pm:Value) (c:Addr) (ctv:Value),H a=some (.frz (L.obj (L.fv.zip cs) pm c ctv) (.fnc c L.qual))/\a2z H cs xs/\cs.Nodup/\cs.length=L.fv.length
theorem Clo.mono {L:LamT} {H H':Hp} {a:Addr} {xs:List V} (s:Same H H') (h:Clo L H a xs):Clo L H' a xs:=by
 obtain ⟨cs,pm,c,ctv,e,r,q⟩:=h
 exact ⟨cs,pm,c,ctv,s _ _ e,r.mono s,q⟩
def ctP (K:Frag) (cls:String->Addr) (lams:Nat->Option LamT) (P:Addr) (good:Pos->Option Str):Ct:=
 ⟨K,cls,fun k H a xs=>∃L,lams k=some L/\Clo L H a xs,fun s ⟨L,e,h⟩=>⟨L,e,h.mono s⟩,fun b=>if b=P then some (.tab good) else none⟩
mutual
theorem Rep.to {Γ:Ct} {H H':Hp} (k:∀b u,H b=some u->(∀o c,u≠.frz o (.own c))->H' b=some u):∀{d:D} {v:V},noFn d=true->Rep Γ H d v->Rep Γ H' d v
 | .non,_,_,r=>by unfold Rep at r ⊢;exact r
 | .bl _,_,_,r=>by unfold Rep at r ⊢;exact r
 | .int _,_,_,r=>by unfold Rep at r ⊢;exact r
 | .str _,_,_,r=>by unfold Rep at r ⊢;exact r
 | .tup ds,_,n,r=>by
  unfold Rep at r ⊢
  obtain ⟨a,xs,e1,q,r⟩:=r
  refine ⟨a,xs,e1,?_,RepL.to k (by unfold noFn at n;exact n) r⟩
  rcases q with (q|⟨o,q⟩)|q
  ·exact .inl (.inl (k _ _ q fun _ _ z=>nomatch z))
  ·exact .inl (.inr ⟨o,k _ _ q fun _ _ z=>by cases z⟩)
  ·exact .inr q
 | .lst ds,_,n,r=>by
  unfold Rep at r ⊢
  obtain ⟨a,xs,e1,q,r⟩:=r
  refine ⟨a,xs,e1,?_,RepL.to k (by unfold noFn at n;exact n) r⟩
  rcases q with (q|⟨o,q⟩)|q
  ·exact .inl (.inl (k _ _ q fun _ _ z=>nomatch z))
  ·exact .inl (.inr ⟨o,k _ _ q fun _ _ z=>by cases z⟩)
  ·exact .inr q
 | .obj c ns ds,_,n,r=>by
  unfold Rep at r ⊢
  obtain ⟨a,dx,xs,e1,q,r⟩:=r
  exact ⟨a,dx,xs,e1,k _ _ q (fun _ _ z=>nomatch z),RepL.to k (by unfold noFn at n;exact n) r⟩
 | .fn _ _,_,n,_=>by unfold noFn at n;cases n
theorem RepL.to {Γ:Ct} {H H':Hp} (k:∀b u,H b=some u->(∀o c,u≠.frz o (.own c))->H' b=some u):∀{ds:List D} {xs:List V},a44 ds=true->RepL Γ H ds xs->RepL Γ H' ds xs
 | [],_,_,r=>by unfold RepL at r ⊢;exact r
 | d::ds,_,n,r=>by
  unfold RepL at r ⊢
  unfold a44 at n
  rw [and_eq_true] at n
  obtain ⟨x,r',e1,q,r2⟩:=r
  exact ⟨x,r',e1,Rep.to k n.1 q,RepL.to k n.2 r2⟩
end
structure b1G (P:Program) (w:World) (K:Frag) (mg:Str->Option Value) (base:Heap) (Γ:Ct) (j k:Nat) (F:List D->Option R):Prop where
 fn:∀H a xs,Γ.clo k H a xs->∃fd u,H a=some (.frz { cls:=.type "function",data:=.func fd } u)
 run:∀(A:Around) (outer:List PySem.Env) (s:Shared) (H Hs:Hp) (a:Addr) (xs:List V) (ds:List D) (v:V) (u:Value) (d:D) (r:S) (Q:VK),Room j A->Env0 P w K mg base A outer s H->Same Hs H->Same Γ.tb Hs->Γ.clo k Hs a xs->RepL Γ Hs ds xs->
  RelV v u->Rep Γ Hs d v->noFn d=true->a44 ds=true->F (d::ds)=some (.ok r)->flat r.val=true->(∀v' H',Same H H'->Rep Γ H' r.val v'->Q v' H')->codeAny (model P w) A (.call (.ref a) ⟨[u],[]⟩) (CR CX0 outer P w H s Q E0) s
theorem b48 {P:Program} {w:World} {K:Frag} {mg:Str->Option Value} {base:Heap} {Γ:Ct} {j k:Nat} {g:ME} {N:List Str} {L:LamT} (S:a4V N L)
  (hbind:∀(pm:Value) (clos:List (Str×Addr)) (c:Addr) (ctv u:Value),bindArgs (kla_fn "<lambda>" L.qual L.params L.body L.scope clos pm (.ref c) ctv) ⟨[u],[]⟩=pure [(L.par,u)])
  (hclo:∀H a xs,Γ.clo k H a xs->Clo L H a xs) (htb:∀b o,Γ.tb b=some o->∃good,o=.tab good)
  (body:∀(A:Around) (outer:List PySem.Env) (s:Shared) (H:Hp) (f c:Addr) (clos:List (Str×Addr)),Room j (A.deeper (a6R L s.heap.objs.size f c clos))->PD (cxLam P w K mg base N L f c clos A outer s H) Γ W0 L.body g):
  b1G P w K mg base Γ (j+1) k (fnL N.length g):=by
 refine ⟨fun H a xs h=>?_,fun A outer s H Hs a xs ds v u d r Q hr e0 sm tb cl rl rv rd n1 n2 e fl hQ=>?_⟩
 ·obtain ⟨cs,pm,c,ctv,e,_⟩:=hclo H a xs h
  exact ⟨_,_,e⟩
 ·obtain ⟨cs,pm,c,ctv,ha,hcs,nd,hl⟩:=hclo Hs a xs cl
  have kp:∀b u,Hs b=some u->(∀o c,u≠.frz o (.own c))->without Hs cs b=some u:=fun b u e n=>by
   rw [a4r]
   ·exact e
   ·intro hm
    obtain ⟨o,u',q,_⟩:=hcs.mem b hm
    rw [q] at e;cases e
    exact n _ _ rfl
  refine run_lam (t:=tD Γ W0 g) S hbind hr e0 (sm _ _ ha) (hcs.mono sm) nd hl rv (body A outer s (without H cs) a c _ (hr.deeper _)) ⟨without Hs cs,without H cs,without Hs cs,a1N N.length (d::ds),.ok r,?_,e,?_⟩
  ·refine a63 (fun b o q=>?_) (.cons (rd.to kp n1) (rl.to kp n2)) fun b o q=>?_
   ·obtain ⟨hb,q⟩:=a6L q
    rw [a4r hb];exact sm _ _ q
   ·obtain ⟨good,rfl⟩:=htb b o q
    exact kp _ _ (tb _ _ q) fun _ _ z=>nomatch z
  ·intro v' Hs' H2 gr rs
   refine hQ v' _ (fun b o q=>?_) (a8E (rs.look gr) fl)
   by_cases hb:b∈cs
   ·rw [a6B hb];exact q
   ·rw [a9k hb];exact gr.h _ _ (by rw [a4r hb];exact q)
def TabL (X:Cx) (Γ:Ct) (T:Nat->Option (List D->Option R)):Prop:=∀k F,T k=some F->∃j,Room j X.A/\b1G X.prog X.w X.K X.mg X.base Γ j k F
section
variable {X:Cx} {Γ:Ct} {T:Nat->Option (List D->Option R)} {i:Nat} {x:Str} {p pos:Pos} {e:Expr} {ga:ME}
end
def SPR (X:Cx) (pins:List (Addr×Obj)) (R:V->L2.St->Hp->Prop) (f:Flow) (s':Shared):Prop:=match f with
 | .ret u=>∃v σ' H',Inv X pins σ' H' s'/\RelV v u/\R v σ' H'
 | _=>False
def PR (X:Cx) (sts:List Stmt) (t:(V->L2.St->Hp->Prop)->L2.St->Hp->Prop):Prop:=
 ∀(pins:List (Addr×Obj)) (s:Shared) (σ:L2.St) (H:Hp) (R:V->L2.St->Hp->Prop),Inv X pins σ H s->t R σ H->wpAny (model X.prog X.w) X.A (execs sts X.env) (SPR X pins R) X.xe s
inductive b53 (X:Cx) (lams:Nat->Option LamT) (Γ:Ct) (B0 B1:Hp) (σ':L2.St) (H':Hp):D->V->Prop
 | mk (Hs':Hp) (ρ':MEnv) (k:Nat) (is:List Nat) (ds:List D) (L:LamT) (a:Addr) (pm:Value) (c:Addr) (ctv:Value) (cs:List Addr) (hL:lams k=some L) (re:RE Γ B0 B1 Hs' H' σ' ρ') (ha:Hs' a=some (.frz (L.obj (L.fv.zip cs) pm c ctv) (.fnc c L.qual)))
   (hv:a7z ρ' is=some ds) (hn:is.map (X.N[·]?)=L.fv.map some) (hc:∀(j:Nat) (y:Str),L.fv[j]?=some y->∃c,cs[j]?=some c/\X.env.cells.lookup y=some c) (hl:cs.length=L.fv.length):b53 X lams Γ B0 B1 σ' H' (.fn k ds) (.ref a)
inductive tR (X:Cx) (lams:Nat->Option LamT) (Γ:Ct) (g:MCl) (R:V->L2.St->Hp->Prop) (σ:L2.St) (H:Hp):Prop
 | mk (B0 B1 Hs:Hp) (ρ:MEnv) (d:D) (re:RE Γ B0 B1 Hs H σ ρ) (e:g ρ=some d) (q:∀v σ' H',b53 X lams Γ B0 B1 σ' H' d v->R v σ' H')
abbrev PRD (X:Cx) (lams:Nat->Option LamT) (Γ:Ct) (sts:List Stmt) (g:MCl):Prop:=PR X sts (tR X lams Γ g)
theorem RE.dems {Γ:Ct} {B0 B1 H:Hp} {σ:L2.St}:∀(is:List Nat) {Hs:Hp} {ρ:MEnv},RE Γ B0 B1 Hs H σ ρ->∃Hs',Same Hs Hs'/\RE Γ B0 B1 Hs' H σ (L3.dems is ρ)
 | [],Hs,ρ,re=>⟨Hs,.refl _,re⟩
 | i::is,Hs,ρ,re=>by
  obtain ⟨Hs1,s1,re1⟩:=re.dem i
  obtain ⟨Hs2,s2,re2⟩:=RE.dems is re1
  exact ⟨Hs2,s1.trans s2,re2⟩
theorem fm_all {g:Str->Option Addr}:∀{fv:List Str},(∀y∈fv,∃c,g y=some c)->(fv.filterMap g).length=fv.length/\∀(j:Nat) (y:Str),fv[j]?=some y->∃c,(fv.filterMap g)[j]?=some c/\g y=some c
 | [],_=>⟨rfl,fun j y h=>by simp at h⟩
 | f::fv,h=>by
  obtain ⟨c,hc⟩:=h f mem_cons_self
  obtain ⟨h1,h2⟩:=fm_all (fv:=fv) fun y hy=>h y (mem_cons_of_mem _ hy)
  have e:(f::fv).filterMap g=c::fv.filterMap g:=by rw [filterMap_cons,hc]
  rw [e]
  refine ⟨by rw [length_cons,length_cons,h1],fun j y hy=>?_⟩
  cases j with
  | zero=>
   simp at hy;subst hy
   exact ⟨c,rfl,hc⟩
  | succ j=>
   obtain ⟨c',q1,q2⟩:=h2 j y (by simpa using hy)
   exact ⟨c',by simpa using q1,q2⟩
section
variable {X:Cx} {Γ:Ct} {lams:Nat->Option LamT} {st:Stmt} {rest a:List Stmt} {g1:MC} {g2 ga gb:MCl} {gc:ME} {c:Expr} {pos pos':Pos}
theorem b4q (h1:PSD X Γ W0 st g1) (h2:PRD X lams Γ rest g2):PRD X lams Γ (st::rest) (cSeq g1 g2):=by
 intro pins s σ H R I ⟨B0,B1,Hs,ρ,d,re,e,q⟩
 unfold cSeq at e
 split at e
 ·rename_i ρ' h
  refine wpAny_execs_cons (thn (h1 pins s σ H { nx:=fun σ' H'=>tR X lams Γ g2 R σ' H',rt:=fun _ _=>False } I ⟨B0,B1,Hs,ρ,.next ρ',re,h,fun σ' Hs' H' sm re'=>⟨B0,B1,Hs',ρ',d,re',e,q⟩⟩) fun f s1 z=>?_)
  cases f with
  | next=>
   obtain ⟨σ',H',I',z⟩:=z
   exact h2 pins s1 σ' H' R I' z
  | ret v=>obtain ⟨_,_,_,_,_,z⟩:=z;exact z.elim
  | brk=>obtain ⟨_,_,_,z⟩:=z;exact z.elim
  | cont=>obtain ⟨_,_,_,z⟩:=z;exact z.elim
 ·cases e
theorem prd_if (hc:PTD X Γ W0 c gc) (ha:PRD X lams Γ a ga) (hb:PRD X lams Γ rest gb):PRD X lams Γ (.If c a [] pos::rest) (cIf gc ga gb):=by
 intro pins s σ H R I ⟨B0,B1,Hs,ρ,d,re,e,q⟩
 unfold cIf at e
 split at e
 ·rename_i s0 h
  split at e
  ·rename_i t et
   refine wpAny_execs_cons (wpAny_If (thn (hc pins s σ H (fun b H1=>b=t/\∃Hs',Grow Hs H Hs' H1) I ⟨B0,B1,Hs,ρ,.ok s0,re,h,⟨t,et,fun Hs' H' g'=>⟨rfl,Hs',g'⟩⟩⟩) fun b s1 ⟨H1,I1,eb,Hs',g'⟩=>?_))
   subst eb
   cases b with
   | true=>
    refine thn (ha pins s1 σ H1 R I1 ⟨B0,B1,Hs',ρ,d,re.grow g',e,q⟩) fun f s2 z=>?_
    cases f with
    | next=>exact z.elim
    | ret v=>exact z
    | brk=>exact z.elim
    | cont=>exact z.elim
   | false=>exact wpAny_execs_nil (hb pins s1 σ H1 R I1 ⟨B0,B1,Hs',ρ,d,re.grow g',e,q⟩)
  ·cases e
 ·cases e
theorem b0S {k:Nat} {is:List Nat} {L:LamT} {P cc:Addr} {good:Pos->Option Str} (hL:lams k=some L) (hn:is.map (X.N[·]?)=L.fv.map some) (hk:∀y∈L.fv,X.env.kindOf y=some .cell) (htb:Γ.tb P=some (.tab good)) (hgp:b1H good) (hC:CodeHd X.base cc P) (hcode:X.env.code=.ref cc) (hB:BltM X.mg X.base)
  (hq:X.env.qual ++ "<lambda>" = L.qual) (hg:good pos=some L.qual) (hcl:closureFor L.scope X.env=pure (L.fv.zip (L.fv.filterMap (X.env.cells.lookup ·)))) (hdef:defaultsOf L.params X.env=([],[])):
  PRD X lams Γ [.Return (some (.Lambda L.params L.body L.scope pos)) pos'] (cLam k is):=by
 intro pins s σ H R I ⟨B0,B1,Hs,ρ,d,re,e,q⟩
 unfold cLam at e
 obtain ⟨Hs1,s1,re1⟩:=re.dems is
 cases hh:a7z (L3.dems is ρ) is with
 | none=>rw [hh] at e;cases e
 | some ds=>
  rw [hh] at e
  cases e
  obtain ⟨f1,f2⟩:=fm_all (g:=(X.env.cells.lookup ·)) (fv:=L.fv) fun y hy=>I.ok.has y (.inl (hk y hy))
  refine wpAny_execs_cons (wpAny_Return_some (thn (pe_lam hgp hC hcode hB hq hg hcl hdef pins s σ H (fun v H'=>b53 X lams Γ B0 B1 σ H' (.fn k ds) v) I ⟨re.b.i _ _ (re.tb _ _ htb),fun H0 a pm c ctv sm n=>?_⟩) fun u s2 ⟨v,H1,I1,r1,q1⟩=>⟨v,σ,H1,I1,r1,q v σ H1 q1⟩))
  have hH:H a=none:=sm.free n
  have hS:Hs1 a=none:=re1.b.i.free hH
  refine .mk (upd Hs1 a _) (L3.dems is ρ) k is ds L a pm c ctv _ hL (re1.grow ⟨a1v hS,sm.trans (a1v n),fun b o z=>?_,fun b o z=>?_⟩) a0W hh hn f2 f1
  ·by_cases hb:b=a
   ·subst hb;rw [a0W] at z ⊢;exact z
   ·rw [a0S hb] at z ⊢;exact sm _ _ (re1.b.i _ _ z)
  ·by_cases hb:b=a
   ·subst hb;exact .inr hH
   ·rw [a0S hb] at z;exact .inl z
end
theorem b19 {ρ:MEnv}:∀{is:List Nat} {ds:List D},a7z ρ is=some ds->is.length=ds.length/\∀(j i:Nat),is[j]?=some i->∃d,ds[j]?=some d/\ρ[i]?=some (some (.sh d))
 | [],ds,h=>by cases h;exact ⟨rfl,fun j i h=>by simp at h⟩
 | i::is,ds,h=>by
  unfold a7z at h
  split at h
  ·rename_i d hd
   cases hh:a7z ρ is with
   | none=>rw [hh] at h;cases h
   | some es=>
    rw [hh] at h
    cases h
    obtain ⟨h1,h2⟩:=b19 hh
    refine ⟨by rw [length_cons,length_cons,h1],fun j i' hj=>?_⟩
    cases j with
    | zero=>simp at hj;subst hj;exact ⟨d,rfl,hd⟩
    | succ j=>obtain ⟨d',q1,q2⟩:=h2 j i' (by simpa using hj);exact ⟨d',by simpa using q1,q2⟩
  ·cases h
theorem a9M {α β γ:Type} {F:α->β->Prop} {G:γ->β->Prop}:∀{l:List α} {m:List γ},l.length=m.length->(∀(j:Nat) (a:α) (c:γ),l[j]?=some a->m[j]?=some c->∃b,F a b/\G c b)->∃xs,Paired F l xs/\Paired G m xs
 | [],[],_,_=>⟨[],.nil,.nil⟩
 | [],_::_,h,_=>by simp at h
 | _::_,[],h,_=>by simp at h
 | a::l,c::m,hl,h=>by
  obtain ⟨b,f,g⟩:=h 0 a c rfl rfl
  obtain ⟨xs,p1,p2⟩:=a9M (F:=F) (G:=G) (l:=l) (m:=m) (by simpa using hl) fun j a' c' h1 h2=>h (j+1) a' c' (by simpa using h1) (by simpa using h2)
  exact ⟨b::xs,.cons f p1,.cons g p2⟩
theorem b4k {Γ:Ct} {H:Hp}:∀{ds:List D} {xs:List V},Paired (fun d v=>Rep Γ H d v) ds xs->RepL Γ H ds xs
 | _,_,.nil=>.nil
 | _,_,.cons r t=>.cons r (b4k t)
def a2W (h:Heap) (cs:List Addr) (H:Hp):Hp:=fun b=>if b∈cs then (h.get? b).map (fun o=>HO.frz o (.own b)) else H b
theorem a3T {h:Heap} {cs:List Addr} {H:Hp} {b:Addr} (n:b∉cs):a2W h cs H b=H b:=by unfold a2W;rw [if_neg n]
theorem a7H {h:Heap} {cs:List Addr} {H:Hp} {b:Addr} {o:Obj} (m:b∈cs) (e:h.get? b=some o):a2W h cs H b=some (.frz o (.own b)):=by unfold a2W;rw [if_pos m,e];rfl
theorem b10 {α:Type}:∀{l:List α},(∀(i j:Nat) (a:α),l[i]?=some a->l[j]?=some a->i=j)->l.Nodup
 | [],_=>.nil
 | a::l,h=>by
  refine nodup_cons.mpr ⟨fun hm=>?_,b10 fun i j b h1 h2=>?_⟩
  ·obtain ⟨j,hj,e⟩:=getElem_of_mem hm
   have:=h 0 (j+1) a rfl (by simpa [getElem?_eq_getElem hj] using e)
   omega
  ·have:=h (i+1) (j+1) b (by simpa using h1) (by simpa using h2)
   omega
theorem a90 {α:Type}:∀{l:List α} {i j:Nat} {a:α},l.Nodup->l[i]?=some a->l[j]?=some a->i=j
 | [],_,_,_,_,h,_=>by simp at h
 | b::l,0,0,_,_,_,_=>rfl
 | b::l,0,j+1,a,nd,h1,h2=>by
  simp at h1;subst h1
  exact absurd (mem_of_getElem? (by simpa using h2)) (nodup_cons.mp nd).1
 | b::l,i+1,0,a,nd,h1,h2=>by
  simp at h2;subst h2
  exact absurd (mem_of_getElem? (by simpa using h1)) (nodup_cons.mp nd).1
 | b::l,i+1,j+1,a,nd,h1,h2=>by
  exact congrArg (· + 1) (a90 (i:=i) (j:=j) (a:=a) (nodup_cons.mp nd).2 (by simpa using h1) (by simpa using h2))
section
variable {P:Program} {w:World} {K:Frag} {mg:Str->Option Value} {base:Heap} {Γ:Ct}
theorem fn_clo {x qual:Str} {st:Stmt} {f cc:Addr} {fd:FuncData} {N ps:List Str} {k:Nat} {g:MCl} {lams:Nat->Option LamT} (F:Fun K x qual st f fd) (hcd:fd.code=.ref cc) (S:a0w N ps (a0g st))
  (hclo:∀k L H a xs,lams k=some L->Clo L H a xs->Γ.clo k H a xs) (hfv:∀k L,lams k=some L->L.fv.Nodup/\∀y∈L.fv,(a0g st).names.lookup y=some .cell)
  (body:∀(A:Around) (outer:List PySem.Env) (s:Shared) (H:Hp) (E:XK),Room k (A.deeper (envOfC qual (a0g st) s.heap.objs.size f (.ref cc)))->PRD (cxOf CX0 P w K mg base N qual (a0g st) f (.ref cc) A outer s H E).nox lams Γ (a0q st) g):
  FnOk P w K mg base CX0 (k+1) f fd ps (spD Γ W0 (fnC ps.length N.length g)):=by
 obtain ⟨oc,od,kV,doc,pm,an,cdv,ct,osl,rfl,lk,hci⟩:=F.ex
 obtain rfl:cdv=.ref cc:=hcd
 have len:∀vs H Q E,spD Γ W0 (fnC ps.length N.length g) vs H Q E->vs.length=ps.length:=fun vs H Q E ⟨Hs,ds,r,sm,rl,e,q,tb⟩=>by
  unfold fnC at e
  split at e
  ·rename_i h;rw [←rl.length];exact h
  ·cases e
 refine ⟨len,fun A outer s H args us vs Q E hr e0 hb r hsp=>?_⟩
 have hl:=len _ _ _ _ hsp
 have KX:K.In s.heap:=e0.mod.kin.keeps fun b o e=>(e0.bs b o e).1
 have lim:s.heap.NoLimit:=e0.mod.nolimit.keeps fun b o e=>(e0.bs b o e).1
 have hkind:∀y∈ps.zip us,(a0g st).names.lookup y.1=some .local\/((a0g st).names.lookup y.1=some .cell/\((cellsFrom (s.heap.objs.size+1) (a0g st).names []).lookup y.1).isSome=true):=fun ⟨n,v⟩ hy=>by
  rcases S.par n (of_mem_zip hy).1 with q|q
  ·exact .inl q
  ·exact .inr ⟨q,cellsFrom_some _ _ _ (.inl q)⟩
 refine codeAny_call_function hr.depth (KX _ _ lk) rfl S.co S.gen rfl (PySem.W.codeRec_of KX hci) (hb _ _ _ _ ?_)
 refine wpAny_newFunctionEnv_cells S.kind hkind fun env he s1 xx=>?_
 subst he
 refine ⟨lim.keeps xx.toInCall.keep,codeAny_func ?_⟩
 have I:Inv (cxOf CX0 P w K mg base N qual (a0g st) f (.ref cc) A outer s H E) [] (start N vs) H s1:=b0j S hr.hd e0 hl r xx
 obtain ⟨Hs,ds,rr,sm,rl,e,q,tb⟩:=hsp
 unfold fnC at e
 split at e
 ·cases hg:g (a1N N.length ds) with
  | none=>rw [hg] at e;cases e
  | some d=>
   rw [hg] at e
   cases e
   refine wpAny_mono (body A outer s H E (hr.deeper _) [] s1 (start N vs) H _ (I.wish _) ⟨Hs,H,Hs,a1N N.length ds,d,a63 sm rl tb,hg,fun v σ' H' z=>z⟩) (fun fl s' hs=>?_) fun e s' hs=>False.elim hs
   cases fl with
   | next=>exact hs.elim
   | brk=>exact hs.elim
   | cont=>exact hs.elim
   | ret u=>
    obtain ⟨v,σ',H',J,rv,hE⟩:=hs
    obtain ⟨Hs',ρ',kk,is,ds',L,a,pm',c,ctv,cs,hL,re,ha,hv,hn,hc,hlen⟩:=hE
    obtain ⟨nd,hcell⟩:=hfv kk L hL
    have look:∀(c':Addr),c'∈cs->∃(j:Nat) (y:Str),cs[j]?=some c'/\L.fv[j]?=some y/\(envOfC qual (a0g st) s.heap.objs.size f (.ref cc)).cells.lookup y=some c':=fun c' hm=>by
     obtain ⟨j,hj,ej⟩:=getElem_of_mem hm
     have hj':j<L.fv.length:=by rw [←hlen];exact hj
     obtain ⟨c2,q1,q2⟩:=hc j L.fv[j] (getElem?_eq_getElem hj')
     have ec:cs[j]?=some c':=by rw [getElem?_eq_getElem hj,ej]
     rw [ec] at q1;cases q1
     exact ⟨j,L.fv[j],ec,getElem?_eq_getElem hj',q2⟩
    have ndc:cs.Nodup:=b10 fun i j c' h1 h2=>by
     have hi:i<L.fv.length:=by rw [←hlen];exact (List.getElem?_eq_some_iff.mp h1).1
     have hj:j<L.fv.length:=by rw [←hlen];exact (List.getElem?_eq_some_iff.mp h2).1
     obtain ⟨c2,q1,q2⟩:=hc i L.fv[i] (getElem?_eq_getElem hi)
     obtain ⟨c3,q3,q4⟩:=hc j L.fv[j] (getElem?_eq_getElem hj)
     rw [h1] at q1;cases q1
     rw [h2] at q3;cases q3
     have eq:=J.ok.inj _ _ _ q2 q4
     exact a90 nd (getElem?_eq_getElem hi) (by rw [getElem?_eq_getElem hj,eq])
    have free:∀c'∈cs,H' c'=none:=fun c' hm=>by
     obtain ⟨j,y,_,_,e2⟩:=look c' hm
     exact J.freeC y c' e2
    have fr0:∀c'∈cs,s.heap.objs.size<=c':=fun c' hm=>by
     obtain ⟨j,y,_,_,e2⟩:=look c' hm
     exact J.ok.cab y c' rfl e2
    have sH:Same H' (a2W s'.heap cs H'):=fun b o e=>by
     rw [a3T]
     ·exact e
     ·intro hm;rw [free b hm] at e;cases e
    have sHs:Same Hs' (a2W s'.heap cs Hs'):=fun b o e=>by
     rw [a3T]
     ·exact e
     ·intro hm;rw [re.b.i.free (free b hm)] at e;cases e
    have sI:Same (a2W s'.heap cs Hs') (a2W s'.heap cs H'):=fun b o e=>by
     by_cases hm:b∈cs
     ·unfold a2W at e ⊢;rw [if_pos hm] at e ⊢;exact e
     ·rw [a3T hm] at e ⊢;exact re.b.i _ _ e
    obtain ⟨hl1,hget⟩:=b19 hv
    have hl2:is.length=L.fv.length:=by have:=congrArg List.length hn;simpa using this
    obtain ⟨xs,p1,p2⟩:=a9M (F:=fun d v=>Rep Γ (a2W s'.heap cs Hs') d v) (G:=fun (c:Addr) (x:V)=>∃o u,a2W s'.heap cs Hs' c=some (.frz o (.own c))/\o.data=.cell (some u)/\RelV x u) (l:=ds') (m:=cs) (by rw [←hl1,hl2,hlen]) fun j d c' h1 h2=>by
     have hj:j<is.length:=by rw [hl1];exact (List.getElem?_eq_some_iff.mp h1).1
     obtain ⟨d2,q1,q2⟩:=hget j is[j] (getElem?_eq_getElem hj)
     rw [h1] at q1;cases q1
     obtain ⟨v2,e2,rp⟩:=re.sh _ _ q2
     have hj':j<L.fv.length:=by rw [←hl2];exact hj
     have hN:N[is[j]]?=some L.fv[j]:=by
      have:=congrArg (·[j]?) hn
      simp only [getElem?_map,getElem?_eq_getElem hj,getElem?_eq_getElem hj',Option.map_some,Option.some.injEq] at this
      exact this
     obtain ⟨c3,q3,q4⟩:=hc j L.fv[j] (getElem?_eq_getElem hj')
     rw [h2] at q3;cases q3
     have hk:(a0g st).names.lookup L.fv[j]=some .cell:=hcell _ (getElem_mem hj')
     obtain ⟨m,_,hloc⟩:=J.loc
     obtain ⟨u2,r2,lk2⟩:=hloc is[j] L.fv[j] v2 hN e2 (.inr (.inl hk))
     rcases lk2 with ⟨z,_⟩|⟨_,c4,e4,o,ho,hdat⟩
     ·have z:(a0g st).names.lookup L.fv[j]=some .local:=z
      rw [hk] at z;cases z
     ·have e4:(envOfC qual (a0g st) s.heap.objs.size f (.ref cc)).cells.lookup L.fv[j]=some c4:=e4
      have q4:(envOfC qual (a0g st) s.heap.objs.size f (.ref cc)).cells.lookup L.fv[j]=some c':=q4
      rw [q4] at e4;cases e4
      exact ⟨v2,rp.mono sHs,o,u2,a7H (mem_of_getElem? h2) ho,hdat,r2⟩
    have fin:=q (.ref a) (a2W s'.heap cs Hs') (a2W s'.heap cs H') ⟨re.b.s.trans sHs,re.b.h.trans sH,sI,fun b o z=>by
      by_cases hm:b∈cs
      ·exact .inr (re.b.h.free (free b hm))
      ·rw [a3T hm] at z;exact re.b.n _ _ z⟩ (RepS.of (a9F.mpr ⟨a,xs,rfl,hclo kk L _ a xs hL ⟨cs,pm',c,ctv,sHs _ _ ha,p2,ndc,hlen⟩,b4k p1⟩))
    refine ⟨.ref a,a2W s'.heap cs H',J.os,J.bare,?_,fun b o e=>?_,rv,fin⟩
    ·have B:=J.base
     refine ⟨B.keep,B.slot,fun b o g n hx=>?_,B.there,fun b ys e=>sH _ _ (B.tups b ys e),fun b o z e=>sH _ _ (B.frzs b o z e),fun b ps e=>?_⟩
     ·rw [a3T fun hm=>absurd (lt_of_lt_of_le (lt_size g) (fr0 b hm)) (lt_irrefl _)]
      exact B.free b o g n hx
     ·obtain ⟨more,z⟩:=B.tbls b ps e
      exact ⟨more,sH _ _ z⟩
    ·by_cases hm:b∈cs
     ·obtain ⟨j,y,_,_,e2⟩:=look b hm
      obtain ⟨u3,o3,g3,_⟩:=J.cell y b e2
      rw [a7H hm g3] at e
      cases e
      exact ⟨g3,⟨o3,g3⟩⟩
     ·rw [a3T hm] at e
      exact (J.hok b o e).stay (fun _ _ _ z=>z) (fun _ z=>sH _ _ z) (fun _ _ z=>sH _ _ z) fun _ _ _ z=>sH _ _ z
 ·cases e
end
def b30 (K:Frag) (PT:Addr) (good:Pos->Option Str):Sp:=fun vs H Q _=>
 ∃(a:Addr) (ns:List Int),vs=[.ref a]/\SqL K H a (ns.map V.int)/\ns.length<=63/\H PT=some (.tab good)/\∀H',H' PT=some (.tab good)->Q (.bl true) H'
theorem law_spT {P:Program} {w:World} {K:Frag} {mg:Str->Option Value} {base:Heap} {Γ:Ct} {k:Nat} {f PT:Addr} {good:Pos->Option Str} {fd:FuncData} {x:Str} {F:List D->Option R} (h:FnOk P w K mg base CX0 k f fd [x] (spD Γ W0 F)) (hK:Γ.K=K) (htb:Γ.tb=fun b=>if b=PT then some (.tab good) else none)
  (T:∀ns:List Int,ns.length<=63->F [.lst (ns.map D.int)]=some (.ok (.sh (.bl true)))):FnOk P w K mg base CX0 k f fd [x] (b30 K PT good):=
 h.imp fun vs H Q E ⟨a,ns,ev,hS,hl,hP,q⟩=>by
  subst hK
  subst ev
  refine ⟨H,[.lst (ns.map D.int)],_,.refl _,.cons (a1x.mpr ⟨a,_,rfl,hS,RepL.ints ns⟩) .nil,T ns hl,fun v Hs' H' g rs=>?_,fun b o z=>?_⟩
  ·have rs':Rep Γ Hs' (.bl true) v:=rs
   rw [a0H.mp rs']
   exact q H' (g.h _ _ hP)
  ·rw [htb] at z
   have z':(if b=PT then some (HO.tab good) else none)=some o:=z
   split at z'
   ·rename_i e;cases z';rw [e];exact hP
   ·cases z'
theorem b47 {P:Program} {w:World} {K:Frag} {mg mb:Str->Option Value} {k:Nat} {fa a cc PT:Addr} {good:Pos->Option Str} {fd:FuncData} {x:Str} {s₁:Shared} {vs:List Value} {ns:List Int}
  (KX:K.In s₁.heap) (hns:s₁.heap.Ns mainGlobals mg) (hb:s₁.heap.Ns builtinsNs mb) (hbb:∀x:Str,x ≠ "__name__" -> mb x=bootBuiltins x) (hlim:s₁.heap.NoLimit) (hg:s₁.gens=#[])
  (hC:CodeHd s₁.heap cc PT) (hT:s₁.heap.get? PT=some (tabObj #[])) (hB:BltM mg s₁.heap) (hK0:noTabs K=true)
  (ha:s₁.heap.get? a=some { cls:=.type "list",data:=.seq vs.toArray }) (hi:IntsAre vs ns) (hl:ns.length<=63) (hr:Room k callerA)
  (F:∀base:Heap,CodeHd base cc PT->BltM mg base->FnOk P w K mg base CX0 k fa fd [x] (b30 K PT good)) (hbind:∀(s:Shared) (u:Value),BindsTo s fd ⟨[u],[]⟩ [(x,u)]):
  codeAny (model P w) callerA (.call (.ref fa) ⟨[.ref a],[]⟩) (fun r s'=>r=.ok (.ret (.bool true))/\OldK s₁.heap s'.heap/\s'.os=s₁.os/\AllBare s'.gens) s₁:=by
 have rv:=a9p hi
 have lenV:=hi.length
 have hl':ns.length<=sizeLine:=le_trans hl (by decide)
 have aP:a≠PT:=fun z=>by rw [z,hT] at ha;cases ha
 have core:∀H:Hp,H PT=some (.tab good)->(∀b,b≠PT->H b≠none->b=a/\K.lookup a=none/\∃o xs,H b=some (.frz o (.lst xs)))->SqL K H a (ns.map V.int)->HOk P w H s₁.heap->
   codeAny (model P w) callerA (.call (.ref fa) ⟨[.ref a],[]⟩) (fun r s'=>r=.ok (.ret (.bool true))/\OldK s₁.heap s'.heap/\s'.os=s₁.os/\AllBare s'.gens) s₁:=by
  intro H hP hA hS hok
  have keep:∀{b:Addr} {o:Obj},s₁.heap.get? b=some o->o≠tabObj #[]->(b=a->K.lookup a=none->False)->(hidT s₁.heap H).get? b=some o:=fun {b o} e n1 n2=>hidT_get e (by
   cases q:H b with
   | none=>rfl
   | some u=>
    by_cases hbP:b=PT
    ·subst hbP;rw [hT] at e;cases e;exact absurd rfl n1
    ·obtain ⟨z1,z2,_⟩:=hA b hbP (by rw [q];simp)
     exact (n2 z1 z2).elim)
  have keepD:∀{b:Addr} {o:Obj},s₁.heap.get? b=some o->o≠tabObj #[]->o.cls≠.type "list" -> (hidT s₁.heap H).get? b=some o:=fun {b o} e n1 n2=>keep e n1 fun z _=>by
   subst z;rw [ha] at e;cases e;exact n2 rfl
  have nsK:∀{b:Addr} {m:Str->Option Value},s₁.heap.Ns b m->(hidT s₁.heap H).Ns b m:=fun {b m} ⟨o,es,ep,e,d,r⟩=>⟨o,es,ep,keep e (fun z=>by rw [z] at d;cases d) (fun z _=>by
   subst z;rw [ha] at e;cases e;cases d),d,r⟩
  have hKb:K.In (hidT s₁.heap H):=fun b o e=>keep (KX b o e) (fun z=>by
   have h2:=all_eq_true.mp hK0 (b,o) (mem_of_lookupK e)
   subst z
   exact absurd (show false=true from h2) Bool.false_ne_true) fun z1 z2=>by subst z1;rw [z2] at e;cases e
  have hM:Mod K mg (hidT s₁.heap H):=⟨hKb,nsK hns,⟨mb,nsK hb,hbb⟩,let ⟨mc,h1,h2⟩:=hlim;⟨mc,nsK h1,h2⟩⟩
  have hC':CodeHd (hidT s₁.heap H) cc PT:=by
   obtain ⟨o,vs',file,tf,flags,tg,inF,text,tt,e1,r1,r2⟩:=hC
   exact ⟨o,vs',file,tf,flags,tg,inF,text,tt,keepD e1 (fun z=>by rw [z] at r1;cases r1) (fun z=>by rw [r1] at z;exact absurd z (by decide)),r1,r2⟩
  have hB':BltM mg (hidT s₁.heap H):=by
   obtain ⟨bm,o,b1,b2,b3,b4,b5,b6⟩:=hB
   exact ⟨bm,o,b1,b2,b3,keepD b4 (fun z=>by rw [z] at b5;cases b5) (fun z=>by rw [b5] at z;exact absurd z (by decide)),b5,b6⟩
  have e0:Env0 P w K mg (hidT s₁.heap H) callerA [] s₁ H:=⟨rfl,hM,fun b o e=>of_hidT e,le_of_eq (b5l _ _),trivial,fun b hb=>absurd (show b∈([]:List Addr) from hb) (by simp),hok,.of_eq hg⟩
  refine codeAny_mono ((F _ hC' hB').run callerA [] s₁ H ⟨[.ref a],[]⟩ [.ref a] [.ref a] (fun v H'=>v=.bl true/\H' PT=some (.tab good)) (fun _ _ _=>False) hr e0 (hbind s₁ (.ref a)) (.cons rfl .nil) ⟨a,ns,rfl,hS,hl,hP,fun H' z=>⟨rfl,z⟩⟩) fun r s' h=>?_
  cases r with
  | error e=>exact False.elim h
  | ok fl=>
   cases fl with
   | next=>exact False.elim h
   | brk=>exact False.elim h
   | cont=>exact False.elim h
   | ret u=>
    obtain ⟨v,H',os,bare,un,hok',r',ev,hP'⟩:=h
    subst ev
    obtain rfl:u=Value.bool true:=r'
    obtain ⟨ps,eps,_⟩:=hok' PT _ hP'
    have old:∀b o,b≠PT->s₁.heap.get? b=some o->s'.heap.get? b=some o:=fun b o hb e=>by
     cases q:H b with
     | none=>exact un.keep b o e q (by intro z;exact absurd (show b∈([]:List Addr) from z) (by simp)) (by simp)
     | some u=>
      obtain ⟨_,_,ob,xs,z⟩:=hA b hb (by rw [q];simp)
      have z2:=un.frzs b ob _ z
      obtain ⟨e1,_⟩:=hok b _ z
      obtain ⟨e2,_⟩:=hok' b _ z2
      rw [e] at e1;cases e1
      exact e2
    refine ⟨rfl,⟨fun b o e=>?_,fun b o e=>?_⟩,os,bare⟩
    ·by_cases hb:b=PT
     ·subst hb
      rw [hT] at e;cases e
      exact .inr (.inl ⟨(hC.tab hT).isCodeTable,rfl,#[],ps,rfl,by rw [Array.empty_append];exact eps⟩)
     ·exact .inl (old b o hb e)
    ·by_cases hb:b=PT
     ·subst hb;exact ⟨_,eps⟩
     ·exact ⟨o,old b o hb e⟩
 have okT:∀H:Hp,a3G P w H s₁.heap PT (.tab good):=fun H=>⟨#[],hT,True.intro,fun p cv _ hc=>by cases hc⟩
 cases hk:K.lookup a with
 | some o=>
  have e:=KX a o hk
  rw [ha] at e
  cases e
  refine core (fun b=>if b=PT then some (.tab good) else none) (if_pos rfl) (fun b hb z=>absurd (if_neg hb) z) (.inr ⟨_,vs.toArray,_,hk,rfl,rfl,rfl,by rw [size_toArray,lenV];exact hl',by simpa using rv⟩) fun b u z=>?_
  have z':(if b=PT then some (HO.tab good) else none)=some u:=z
  split at z'
  ·rename_i e;subst e;cases z';exact okT _
  ·cases z'
 | none=>
  refine core (fun b=>if b=PT then some (.tab good) else if b=a then some (.frz { cls:=.type "list",data:=.seq vs.toArray } (.lst (ns.map V.int))) else none) (if_pos rfl) (fun b hb z=>?_) (.inl (.inr ⟨{ cls:=.type "list",data:=.seq vs.toArray },(if_neg aP).trans (if_pos rfl)⟩)) fun b u z=>?_
  ·have z':(if b=PT then some (HO.tab good) else if b=a then some (.frz { cls:=.type "list",data:=.seq vs.toArray } (.lst (ns.map V.int))) else none)≠none:=z
   rw [if_neg hb] at z'
   by_cases hba:b=a
   ·exact ⟨hba,hk,_,_,(if_neg hb).trans (if_pos hba)⟩
   ·rw [if_neg hba] at z';exact absurd rfl z'
  ·have z':(if b=PT then some (HO.tab good) else if b=a then some (.frz { cls:=.type "list",data:=.seq vs.toArray } (.lst (ns.map V.int))) else none)=some u:=z
   split at z'
   ·rename_i e;subst e;cases z';exact okT _
   ·split at z'
    ·rename_i e;subst e;cases z'
     exact ⟨ha,by rw [length_map];exact hl',vs,_,rv,ha⟩
    ·cases z'
theorem b46 {l:PySem.W.OpenLaw} {q:Program} {loose:List Str} {XP:(Str->Option Value)->Heap->Prop} {YP:World->Heap->Prop} {d dP:DefRec} {K:Params->Frag} {k:Nat} {x y:Str} {cc PT:Addr} {good:Pos->Option Str} (hk:k<=60) (hn:l.most=some 63) (hdf:d.params.defaults=[])
  (hrec:(recsOf q).find? (fun e=>e.name == y)=some dP) (htab:∀w:World,tabIn (K w.params) y=some (cc,PT)) (hno:∀w:World,noTabs (K w.params)=true)
  (hY:∀(w:World) (h:Heap),YP w h->(K w.params).In h)
  (F:∀(w:World) (mg:Str->Option Value) (fa:Addr) (h:Heap),(K w.params).In h->h.Ns mainGlobals mg->mg d.name=some (.ref fa)->
   ∃fd:FuncData,(∀(s:Shared) (u:Value),BindsTo s fd ⟨[u],[]⟩ [(x,u)])/\∀base:Heap,CodeHd base cc PT->BltM mg base->FnOk l.prog w (K w.params) mg base CX0 k fa fd [x] (b30 (K w.params) PT good)):
  PySem.W.WalkO q loose XP YP l.row.toRowW d [] (fun f vs=>PySem.call f vs):=by
 refine Att.attach_call hn hdf fun w s₀ s₁ mg mb fa o pm cd doc a vs ns G Y ho hd hcd hmg hobj hints hlen hg=>?_
 have KX:=hY w _ Y
 obtain ⟨fd,hb,hF⟩:=F w mg fa _ KX G.T.g hmg
 obtain ⟨hC,hT⟩:=tab_of G.T KX hrec (htab w)
 obtain ⟨bm,ob,b1,b2,b3,b4,b5,b6⟩:=G.T.bmain
 have bG:bm≠mainGlobals:=fun z=>by
  obtain ⟨o',es,ep,e,hd',_⟩:=G.T.g
  rw [z,e] at b3;cases b3;rw [hd'] at b6;cases b6
 exact b47 KX G.T.g G.T.b G.T.builtins G.T.nolimit hg hC hT ⟨bm,ob,b1,b2,bG,b3,b4,b5,b6⟩ (hno w) hobj hints hlen (Room.mono (k:=60) ⟨rfl,by decide,by decide⟩ hk) hF hb
end L3
namespace L3
open PySem PySem.Spec PyProof.Rows L2
section
variable {X:Cx} {Γ:Ct} {W:XW}
theorem dLZ_some {ds:List D} {r:R} (h:dLZ ds=some r):∃xs ys,ds=[.lst xs,.lst ys]/\xs.length=ys.length/\r=.ok (.own (.lst (zipWith (fun a b=>.tup [a,b]) xs ys))):=by
 unfold dLZ at h
 split at h
 ·split at h
  ·rename_i xs ys hl;cases h;exact ⟨xs,ys,rfl,hl,rfl⟩
  ·cases h
 ·cases h
theorem a8f {H:Hp}:∀{ds es:List D} {xs ys:List V} {ts:List Addr},RepL Γ H ds xs->RepL Γ H es ys->ds.length=es.length->ts.length=xs.length->(∀(j:Nat) (t:Addr) (x y:V),ts[j]?=some t->xs[j]?=some x->ys[j]?=some y->H t=some (.tup [x,y]))->
  RepL Γ H (zipWith (fun a b=>D.tup [a,b]) ds es) (ts.map V.ref)
 | [],[],xs,ys,ts,h1,h2,hl,ht,h=>by
  rw [a2x.mp h1] at ht
  cases ts with
  | nil=>exact .nil
  | cons _ _=>simp at ht
 | [],_::_,_,_,_,_,_,hl,_,_=>by simp at hl
 | _::_,[],_,_,_,_,_,hl,_,_=>by simp at hl
 | d::ds,e::es,xs,ys,ts,h1,h2,hl,ht,h=>by
  obtain ⟨x,xr,rfl,q1,t1⟩:=a00.mp h1
  obtain ⟨y,yr,rfl,q2,t2⟩:=a00.mp h2
  cases ts with
  | nil=>simp at ht
  | cons t ts=>
   exact .cons (a1G.mpr ⟨t,[x,y],rfl,.inl (.inl (h 0 t x y rfl rfl rfl)),.cons q1 (.cons q2 .nil)⟩) (a8f t1 t2 (by simpa using hl) (by simpa using ht) fun j t' x' y' a b c=>h (j+1) t' x' y' (by simpa using a) (by simpa using b) (by simpa using c))
theorem b2R {a b:Expr} {ga gb:ME} {p p' pos' pos:Pos} (hK:X.K=Γ.K) (hc:X.calm=true) (hg:Gl X "list") (hm:X.mg "list" = none) (hg2:Gl X "zip") (hm2:X.mg "zip" = none) (ha:PD X Γ W a ga) (hb:PD X Γ W b gb)
  (hs1:starEach [a,b] X.env=(false,eval a X.env)::starEach [b] X.env:=by rfl) (hs2:starEach [b] X.env=(false,eval b X.env)::starEach [] X.env:=by rfl) (hs0:starEach [] X.env=[]:=by rfl)
  (hs3:starEach [.Call (.Name "zip" p') [a,b] [] pos'] X.env=(false,eval (.Call (.Name "zip" p') [a,b] [] pos') X.env)::starEach [] X.env:=by rfl) (hpl2:(backTo pos (starEach [] X.env)).any (·.1)=false:=by rfl):
  PD X Γ W (.Call (.Name "list" p) [.Call (.Name "zip" p') [a,b] [] pos'] [] pos) (a0l dLZ [ga,gb]):=
 PE.imp (b2Q hc hg hm hg2 hm2 (a2j ha (a2j hb a5b hs2) hs1) (by rw [hs1,hs2,hs0]) (by rw [hs2,hs0]) hs3 hpl2) fun _ _ σ H Q _ ⟨B0,B1,Hs,ρ,r,re,e,q⟩=>by
  refine a2u [ga,gb] (fun vs H1 ⟨Hs1,ds,g1,re1,rl,e1,q1⟩=>?_) (a5r [ga,gb] re e q)
  obtain ⟨xs,ys,rfl,hl,rfl⟩:=dLZ_some e1
  obtain ⟨v,u,rfl,r1,r2⟩:=repL2 rl
  obtain ⟨l1,ws,rfl,s1,rl1⟩:=a1x.mp r1
  obtain ⟨l2,zs,rfl,s2,rl2⟩:=a1x.mp r2
  have sm:=re1.b.i
  have hlw:ws.length=zs.length:=by rw [←rl1.length,←rl2.length,hl]
  refine ⟨l1,l2,ws,zs,rfl,by rw [hK];exact Same.seq sm s1,by rw [hK];exact Same.seq sm s2,hlw,fun ts S ht nd hts hS=>?_⟩
  have nl:∀b,b∉ts->(ts.zip (zipWith (fun a b=>[a,b]) ws zs)).lookup b=none:=fun b hb=>a5j fun p hp e=>hb (e▸(of_mem_zip (show (p.1,p.2)∈_ from hp)).1)
  have pn:∀(G:Hp) (b:Addr),b∉ts->a3Z (ts.zip (zipWith (fun a b=>[a,b]) ws zs)) G b=G b:=fun G b hb=>by unfold a3Z;rw [nl b hb]
  have SN:S∉ts:=fun hm=>(hts S hm).2 rfl
  have smP:∀G:Hp,(∀t∈ts,G t=none)->Same G (a3Z (ts.zip (zipWith (fun a b=>[a,b]) ws zs)) G):=fun G hG b o e=>by rw [pn G b fun hm=>by rw [hG b hm] at e;cases e];exact e
  have hsN:∀t∈ts,Hs1 t=none:=fun t ht=>sm.free (hts t ht).1
  have sS:=smP Hs1 hsN
  have sH:=smP H1 fun t ht=>(hts t ht).1
  have fS:a3Z (ts.zip (zipWith (fun a b=>[a,b]) ws zs)) H1 S=none:=by rw [pn H1 S SN];exact hS
  have fSs:a3Z (ts.zip (zipWith (fun a b=>[a,b]) ws zs)) Hs1 S=none:=by rw [pn Hs1 S SN];exact sm.free hS
  refine q1 (.ref S) (a3Z (ts.zip (zipWith (fun a b=>[a,b]) ws zs)) Hs1) _ ⟨sS,sH.trans (a1v fS),fun b o z=>?_,fun b o z=>?_⟩ (RepN.mk S _ rfl hS fSs a0W ⟨_,rfl,a8f (rl1.mono sS) (rl2.mono sS) hl (by rw [ht]) fun j t x y h1 h2 h3=>?_⟩)
  ·rw [a0S (a0O z fSs)]
   by_cases hb:b∈ts
   ·unfold a3Z at z ⊢
    cases lk:(ts.zip (zipWith (fun a b=>[a,b]) ws zs)).lookup b with
    | some pp=>rw [lk] at z;exact z
    | none=>rw [lk] at z;exact sm _ _ z
   ·rw [pn _ b hb] at z ⊢;exact sm _ _ z
  ·by_cases hb:b∈ts
   ·exact .inr (hts b hb).1
   ·rw [pn _ b hb] at z;exact .inl z
  ·unfold a3Z
   rw [a55 nd h1 (show (zipWith (fun a b=>[a,b]) ws zs)[j]?=some [x,y] by rw [List.getElem?_zipWith,h2,h3])]
end
end L3
namespace L3
open PySem PySem.Spec PyProof.Rows L2 PySem.W
def stRet:Stmt->Expr
 | .Return (some e) _=>e
 | .If _ [.Return (some e) _] _ _=>e
 | _=>.Name "" ⟨0,0,0,0⟩
def mkLam (e:Expr) (qual par:Str) (fv:List Str):LamT:=match e with
 | .Lambda p b sc _=>⟨p,b,sc,qual,par,fv⟩
 | _=>⟨{ posonlyargs:=[],args:=[],vararg:=none,kwonlyargs:=[],kw_defaults:=[],kwarg:=none,defaults:=[] },e,{ kind:=.function,names:=[],isGenerator:=false,isCoroutine:=false },qual,par,fv⟩
def b5n (ls:List (Nat×Nat)) (q:Str):Pos->Option Str:=fun p=>if ls.contains (p.line,p.col) then some q else none
theorem a7A {ls:List (Nat×Nat)} {q:Str}:b1H (b5n ls q):=fun p p' h1 h2=>by unfold b5n;rw [h1,h2]
theorem a83 {N:List Str} {L:LamT} (kind:L.scope.kind=.function) (co:L.scope.isCoroutine=false) (gen:L.scope.isGenerator=false) (nd:N.Nodup) (pre:N.take (1+L.fv.length)=L.par::L.fv) (par:L.scope.names.lookup L.par=some .local\/L.scope.names.lookup L.par=some .cell)
  (fvs:∀y∈L.fv,L.scope.names.lookup y=some .free/\(y,NameKind.cell)∉L.scope.names) (all:∀p∈L.scope.names,p.2=.free->p.1∈L.fv):a4V N L:=
 ⟨kind,co,gen,nd,pre,par,fvs,fun y h=>all (y,.free) (PySem.mem_of_lookup h) rfl⟩
theorem b1w {K:Frag} {cls:String->Addr} {lams:Nat->Option LamT} {PT:Addr} {good:Pos->Option Str}:∀b o,(ctP K cls lams PT good).tb b=some o->∃g,o=.tab g:=fun b o h=>by
 have h':(if b=PT then some (HO.tab good) else none)=some o:=h
 split at h'
 ·cases h';exact ⟨_,rfl⟩
 ·cases h'
theorem b5C {K:Frag} {cls:String->Addr} {lams:Nat->Option LamT} {PT:Addr} {good:Pos->Option Str}:(ctP K cls lams PT good).tb PT=some (.tab good):=if_pos rfl
theorem b1x {K:Frag} {cls:String->Addr} {lams:Nat->Option LamT} {PT:Addr} {good:Pos->Option Str} {k:Nat} {L:LamT} (h:lams k=some L):∀H a xs,(ctP K cls lams PT good).clo k H a xs->Clo L H a xs:=fun H a xs ⟨L',e,q⟩=>by
 rw [h] at e;cases e;exact q
structure LaidC (K:Frag) (mg:Str->Option Value) (x:Str) (st:Stmt) (ps:List Str) (cc:Addr):Prop where
 ex:∃f fd,Fun K x x st f fd/\mg x=some (.ref f)/\a5s K fd ps []/\fd.code=.ref cc
theorem fn_laidC {P:Program} {w:World} {K:Frag} {mg:Str->Option Value} {base:Heap} {cls:String->Addr} {lams:Nat->Option LamT} {PT:Addr} {good:Pos->Option Str} {x:Str} {st:Stmt} {N ps:List Str} {k:Nat} {cc:Addr} {g:MCl} (L:LaidC K mg x st ps cc) (S:a0w N ps (a0g st))
  (hfv:∀k L,lams k=some L->L.fv.Nodup/\∀y∈L.fv,(a0g st).names.lookup y=some .cell)
  (body:∀(f:Addr) (A:Around) (outer:List PySem.Env) (s:Shared) (H:Hp) (E:XK),Room k (A.deeper (envOfC x (a0g st) s.heap.objs.size f (.ref cc)))->PRD (cxOf CX0 P w K mg base N x (a0g st) f (.ref cc) A outer s H E).nox lams (ctP K cls lams PT good) (a0q st) g):
  FnN P w K mg base (ctP K cls lams PT good) (k+1) x ps (fnC ps.length N.length g):=by
 obtain ⟨f,fd,F,hm,hb,hc⟩:=L.ex
 exact ⟨f,fd,fn_clo F hc S (fun k L H a xs h1 h2=>⟨L,h1,h2⟩) hfv (body f),hm,F.kp,hb⟩
theorem laidC_mk {K:Frag} {mg:Str->Option Value} {h:Heap} (X:K.In h) (G:h.Ns mainGlobals mg) {x:Str} {st:Stmt} {ps:List Str} {f cc:Addr} {oc:Value} {od an:Option Addr} {osl:Array (Option Value)} {kV doc pm ct:Value} (a:nsIn K mainGlobals x=some (some (.ref f)))
  (l:K.lookup f=some ⟨oc,od,.func (fnOf x x (a0v st) (a0q st) (a0g st) .none kV doc pm an (.ref cc) ct),osl⟩) (c:codeIn K (.ref cc) x=true) (k:keepIn K (.ref f)=true)
  (b:∀(kV doc pm:Value) (an:Option Addr) (cdv ct:Value) (us:List Value),us.length=ps.length->bindArgs (fnOf x x (a0v st) (a0q st) (a0g st) .none kV doc pm an cdv ct) ⟨us,[]⟩=pure (ps.zip us)):LaidC K mg x st ps cc:=
 ⟨_,_,a6Q l c k,mg_of X G a,(a6Q l c k).binds b,rfl⟩
def a8p (T:Nat->Option (List D->Option R)) (gf ga:ME):ME:=fun ρ=>a1h (gf ρ) fun f=>match f with
 | .fn k ds=>a1h (ga ρ) fun d=>if noFn d && a44 ds then (match T k with
  | some F=>a6Z (F (d::ds))
  | none=>none) else none
 | _=>none
section
variable {X:Cx} {Γ:Ct} {T:Nat->Option (List D->Option R)} {pos:Pos} {fe e:Expr} {gf ga:ME}
theorem pd_callX (hT:TabL X Γ T) (hf:PD X Γ W0 fe gf) (ha:PAD X Γ W0 [e] [ga])
  (ht:eval (.Call fe [e] [] pos) X.env=(do callWith pos (←eval fe X.env) [] (backTo pos (starEach [e] X.env)) (backToKw pos (keywordEach [] X.env))):=by rfl)
  (he:starEach [e] X.env=(false,eval e X.env)::starEach [] X.env:=by rfl):
  PD X Γ W0 (.Call fe [e] [] pos) (a8p T gf ga):=by
 intro pins s σ H Q I ⟨B0,B1,Hs,ρ,r,re,e1,q⟩
 rw [ht]
 refine wpAny_bind (thn (hf pins s σ H _ I (a1s re e1 q)) fun f s1 ⟨v',H',I1,r1,Hs0,fd0,g0,re0,rp,e2,q0⟩=>?_)
 cases fd0 with
 | fn k ds=>
  obtain ⟨a,xs,rfl,cl,rl⟩:=a9F.mp rp
  obtain rfl:f=Value.ref a:=r1
  have step:=a1s re0 e2 q0
  rw [he]
  refine callWith_of (P:=fun h=>∃fd,h.get? a=some { cls:=.type "function",data:=.func fd }) (by show ((false || (backTo pos (starEach [] X.env)).any (·.1)) || false)=false;rfl) (fun h ⟨fd,eh⟩=>⟨.frame,.inl rfl,(Looks.ld (part:=none) eh).andThen .now⟩) (Calls.evalArgs_plain ?_)
  have ha':=ha pos pins s1 σ H' (fun vs H1=>∃v1,vs=[v1]/\∃Hs1 d,Grow Hs0 H' Hs1 H1/\RE Γ B0 B1 Hs1 H1 σ ρ/\Rep Γ Hs1 d v1/\(if (noFn d && a44 ds)=true then (match T k with|some F=>a6Z (F (d::ds))|none=>none) else none)=some r/\RQ Γ W0 Hs1 H1 r Q) I1 (step.mono fun v1 H1 z=>⟨v1,rfl,z⟩)
  rw [he] at ha'
  refine thn ha' fun us s2 ⟨vs,H2,I2,r2,v1,evs,Hs1,d,g1,re1,rd,e3,q2⟩=>?_
  subst evs
  obtain ⟨u,rfl,ru⟩:=a6d r2
  split at e3
  ·rename_i hn
   rw [and_eq_true] at hn
   split at e3
   ·rename_i F hF
    obtain ⟨j,hr,ok⟩:=hT k F hF
    have cl2:=Γ.cloM g1.s cl
    obtain ⟨fd,uo,hfd⟩:=ok.fn Hs1 a xs cl2
    cases hFr:F (d::ds) with
    | none=>rw [hFr] at e3;cases e3
    | some R0=>
     rw [hFr] at e3
     cases R0 with
     | exc y=>cases e3
     | ok s0=>
      have e4:(if flat s0.val=true then okD s0.val else none)=some r:=e3
      split at e4
      ·rename_i hfl
       cases e4
       refine ⟨⟨fd,(I2.hok a _ (g1.i _ _ hfd)).1⟩,?_⟩
       refine wpAny_call (codeAny_mono (ok.run X.A X.stack s2 H2 Hs1 a xs ds v1 u d s0 Q hr I2.env0 g1.i re1.tb cl2 (rl.mono g1.s) ru rd hn.1 hn.2 hFr hfl fun v' H' sm' rp'=>?_) fun r s' hq=>?_)
       ·exact q2 v' Hs1 H' (.only g1.i sm') (RepS.of (a8E rp' hfl))
       ·cases r with
        | error e=>exact hq.elim
        | ok fl=>
         cases fl with
         | ret u=>exact I2.after hq
         | next=>exact False.elim hq
         | brk=>exact False.elim hq
         | cont=>exact False.elim hq
      ·cases e4
   ·cases e3
  ·cases e3
 | non=>cases e2
 | bl _=>cases e2
 | int _=>cases e2
 | str _=>cases e2
 | tup _=>cases e2
 | lst _=>cases e2
 | obj _ _ _=>cases e2
end
end L3
namespace L3
open PySem
section
variable {ρ ρ' ρ1:MEnv} {a b c:ME} {x y:MC} {o:Option Out} {s t:S} {r:Option R}
theorem a0E (h:x ρ=some (.ret s)):sSeq x y ρ=some (.ret s):=by unfold sSeq;rw [h]
theorem a0b (h:x ρ=some (.next ρ')) (h2:y ρ'=o):sSeq x y ρ=o:=by unfold sSeq;rw [h];exact h2
theorem if_t {u v:MC} (h:c ρ=okB true) (h2:u ρ=o):sIf c u v ρ=o:=by unfold sIf;rw [h];exact h2
theorem if_f {u v:MC} (h:c ρ=okB false) (h2:v ρ=o):sIf c u v ρ=o:=by unfold sIf;rw [h];exact h2
theorem a0p {i:Nat} (h:a ρ=some (.ok s)):sSet i a ρ=some (.next (ρ.set i (some s))):=by unfold sSet;rw [h];rfl
theorem a0T (h:a ρ=some (.ok s)):sRet a ρ=some (.ret s):=by unfold sRet;rw [h];rfl
theorem a1o {i:Nat} (h:x (dem i ρ)=o):sDem i x ρ=o:=h
theorem a4l {i:Nat} {ds:List D} (h0:ρ[i]?=some (some (.own (.lst ds)))) (h:a ρ=some (.ok s)) (hl:ds.length<lim):a1m i a ρ=some (.next (ρ.set i (some (.own (.lst (ds++[s.val])))))):=by
 unfold a1m ownL;rw [h0];dsimp only;rw [h];dsimp only [a5N];rw [if_pos hl]
theorem a7B {it:MI} {bd:MB} {body:MC} {ds:List D} (h:it ρ=some (.ok ds)) (h2:forD bd body ds ρ=o):sFor it bd body ρ=o:=by unfold sFor;rw [h];exact h2
theorem a0x {np n:Nat} {g:MC} {ds:List D} (hl:ds.length=np) (h:g (a1N n ds)=some (.ret s)):fnD np n g ds=some (.ok s):=by unfold fnD;rw [if_pos hl,h];rfl
theorem a0c {f:D->D->Option R} (h1:a ρ=some (.ok s)) (h2:b ρ=some (.ok t)) (h3:f s.val t.val=r):eBin f a b ρ=r:=by unfold eBin;rw [h1];dsimp only [a1h];rw [h2];exact h3
theorem un_e {f:D->Option R} (h1:a ρ=some (.ok s)) (h3:f s.val=r):eUn f a ρ=r:=by unfold eUn;rw [h1];exact h3
theorem a1Y (h:a ρ=okB true) (h2:b ρ=r):eAnd a b ρ=r:=by unfold eAnd;rw [h];exact h2
theorem a46 (h:a ρ=okB false):eAnd a b ρ=okB false:=by unfold eAnd;rw [h];rfl
theorem or_t (h:a ρ=okB true):eOr a b ρ=okB true:=by unfold eOr;rw [h];rfl
theorem or_f (h:a ρ=okB false) (h2:b ρ=r):eOr a b ρ=r:=by unfold eOr;rw [h];exact h2
theorem not_e {z:Bool} (h:a ρ=okB z):eNot a ρ=okB (!z):=by unfold eNot eUn;rw [h];rfl
theorem not_t (h:a ρ=okB true):eNot a ρ=okB false:=not_e h
theorem not_f (h:a ρ=okB false):eNot a ρ=okB true:=not_e h
theorem a02 {F:List D->Option R} {e1:ME} {s1:S} (h1:e1 ρ=some (.ok s1)) (h:F [s1.val]=r):a0l F [e1] ρ=r:=by unfold a0l a1e;rw [h1];exact h
theorem a0M {F:List D->Option R} {e1 e2:ME} {s1 s2:S} (h1:e1 ρ=some (.ok s1)) (h2:e2 ρ=some (.ok s2)) (h:F [s1.val,s2.val]=r):a0l F [e1,e2] ρ=r:=by
 unfold a0l a1e;rw [h1];dsimp only [a1h];unfold a1e;rw [h2];exact h
theorem a2n {F:List D->Option R} {e1 e2 e3:ME} {s1 s2 s3:S} (h1:e1 ρ=some (.ok s1)) (h2:e2 ρ=some (.ok s2)) (h3:e3 ρ=some (.ok s3)) (h:F [s1.val,s2.val,s3.val]=r):a0l F [e1,e2,e3] ρ=r:=by
 unfold a0l a1e;rw [h1];dsimp only [a1h];unfold a1e;rw [h2];dsimp only [a1h];unfold a1e;rw [h3];exact h
theorem tup2 {e1 e2:ME} {s1 s2:S} (h1:e1 ρ=some (.ok s1)) (h2:e2 ρ=some (.ok s2)):eTup [e1,e2] ρ=okD (.tup [s1.val,s2.val]):=a0M h1 h2 rfl
theorem lenB {e1:ME} {s1:S} {n:Int} (h1:e1 ρ=some (.ok s1)) (h:dLen s1.val=okI n):a0r (f1 dLen) [e1] ρ=okI n:=by
 have:a1e [e1] ρ (f1 dLen)=okI n:=a02 (F:=f1 dLen) h1 h
 unfold a0r;rw [this];rfl
theorem a1M {i:Nat} {d:D} (h:ρ[i]?=some (some (.sh d))):eVar i ρ=okD d:=by unfold eVar;rw [h]
theorem a4d {i:Nat} (h:ρ[i]?=some (some s)) (hn:s.nd=true:=by rfl):eAny i ρ=okD s.val:=by
 unfold eAny;rw [h]
 cases s with
 | sh d=>rfl
 | own o=>cases o with
  | lst _=>rfl
  | obj _ _ _=>rfl
  | dic _=>cases hn
theorem a4i {ds:List D} (h:a ρ=some (.ok s)) (hi:a85 s.val=some ds):iSeq a ρ=some (.ok ds):=by unfold iSeq;rw [h];dsimp only;rw [hi];rfl
theorem a2f {i:Int} (h:a ρ=okI i) (hr:a5L i=true):a08 a ρ=some (.ok (rng 0 i)):=by unfold a08 iArg;rw [h];dsimp only [S.val];rw [if_pos hr]
theorem rep_e {ds:List D} {k:Int} (h1:a ρ=okL ds) (h2:b ρ=okI k) (hk:-(2 ^ 60)<=k/\k<2 ^ 60/\ds.length * k.toNat<=lim):eRep a b ρ=okL (replicate k.toNat ds).flatten:=by
 unfold eRep;rw [h1];dsimp only;rw [h2];exact if_pos hk
theorem add_int (i j:Int):dAdd (.int i) (.int j)=okI (i+j):=rfl
theorem sub_int (i j:Int):dSub (.int i) (.int j)=okI (i - j):=rfl
theorem mul_int {i j:Int} (h:(a5O i || a5O j)=true):dMul (.int i) (.int j)=okI (i * j):=by unfold dMul;exact if_pos h
theorem a0P {i j:Int} (h:0<j):dMod (.int i) (.int j)=okI (i % j):=by unfold dMod;exact if_pos h
theorem b1O {i:Int} (h1:-(2 ^ 60)<=i) (h2:i<=2 ^ 60):a5O i=true:=by unfold a5O;simp;omega
theorem mulL {i j:Int} (h1:-(2 ^ 60)<=i) (h2:i<=2 ^ 60):dMul (.int i) (.int j)=okI (i * j):=mul_int (by rw [b1O h1 h2];rfl)
theorem mulR {i j:Int} (h1:-(2 ^ 60)<=j) (h2:j<=2 ^ 60):dMul (.int i) (.int j)=okI (i * j):=mul_int (by rw [b1O h1 h2,Bool.or_true])
theorem ix_tup {ds:List D} {d:D} {n:Nat} (h:ds[n]?=some d):dIx (.tup ds) (.int n)=okD d:=by
 have hn:n<ds.length:=(List.getElem?_eq_some_iff.mp h).1
 show (atD ds (n:Int)).bind okD=_
 unfold atD ixD
 rw [if_pos (by omega),if_pos (by omega)]
 simp [h]
theorem a3H {ds:List D} {d:D} {n:Nat} (h:ds[n]?=some d):dIx (.lst ds) (.int n)=okD d:=ix_tup h
theorem rng0 (n:Nat):rng 0 n=(List.range n).map fun k:Nat=>D.int k:=by
 unfold rng
 rw [Int.sub_zero,toNat_natCast]
 exact List.map_congr_left fun k _=>by rw [Int.zero_add]
theorem a1d {n:Nat} (h:n<=1000000):a5L (n:Int)=true:=by unfold a5L;simp;omega
theorem b2b {bd:MB} {body:MC} (Iv:Nat->MEnv->Prop):∀(ds:List D) (i:Nat) (ρ:MEnv),Iv i ρ->(∀(k:Nat) (ρ:MEnv) (d:D),ds[k]?=some d->Iv (i+k) ρ->∃ρ1 ρ2,bd d ρ=some ρ1/\body ρ1=some (.next ρ2)/\Iv (i+k+1) ρ2)->
  ∃ρ',forD bd body ds ρ=some (.next ρ')/\Iv (i+ds.length) ρ'
 | [],i,ρ,h,_=>⟨ρ,rfl,h⟩
 | d::ds,i,ρ,h,hs=>by
  obtain ⟨ρ1,ρ2,e1,e2,h2⟩:=hs 0 ρ d rfl h
  obtain ⟨ρ',e3,h3⟩:=b2b Iv ds (i+1) ρ2 h2 fun k ρ d' e hk=>by
   obtain ⟨r1,r2,f1,f2,f3⟩:=hs (k+1) ρ d' (by simpa using e) (by rw [show i+(k+1)=i+1+k by omega];exact hk)
   exact ⟨r1,r2,f1,f2,by rw [show i+1+k+1=i+(k+1)+1 by omega];exact f3⟩
  refine ⟨ρ',?_,by rw [length_cons,show i+(ds.length+1)=i+1+ds.length by omega];exact h3⟩
  unfold forD
  rw [e1]
  dsimp only
  rw [e2]
  exact e3
theorem a6I {bd:MB} {body:MC} (Iv:Nat->MEnv->Prop) (n:Nat) (h0:Iv 0 ρ) (hs:∀(k:Nat) (ρ:MEnv),k<n->Iv k ρ->∃ρ1 ρ2,bd (.int k) ρ=some ρ1/\body ρ1=some (.next ρ2)/\Iv (k+1) ρ2):
  ∃ρ',forD bd body (rng 0 n) ρ=some (.next ρ')/\Iv n ρ':=by
 obtain ⟨ρ',e,h⟩:=b2b (bd:=bd) (body:=body) Iv (rng 0 n) 0 ρ h0 fun k ρ d e hk=>by
  rw [rng0,getElem?_map] at e
  have hk':k<n:=by
   by_cases z:k<n
   ·exact z
   ·rw [getElem?_eq_none (by rw [length_range];omega)] at e;cases e
  rw [getElem?_range hk'] at e
  cases e
  rw [Nat.zero_add] at hk ⊢
  exact hs k ρ hk' hk
 rw [Nat.zero_add,rng0,length_map,length_range] at h
 exact ⟨ρ',e,h⟩
end
theorem b4n {lo hi:Int} (h1:a5L lo=true) (h2:a5L hi=true) (h3:(hi - lo).toNat<=lim):a6x (.int lo) (.int hi)=okL (rng lo hi):=by
 unfold a6x
 exact if_pos ⟨h1,h2,h3⟩
theorem b16 (ns:List Int):intsOf (ns.map D.int)=some ns:=by
 induction ns with
 | nil=>rfl
 | cons n ns ih=>rw [map_cons];unfold intsOf;rw [ih];rfl
inductive b0J:Nat->D->Prop
 | non (n):b0J n .non
 | bl (n b):b0J n (.bl b)
 | int (n i):b0J n (.int i)
 | str (n x):b0J n (.str x)
 | tup (n ds):(∀d∈ds,b0J n d)->ds.length<=lim->b0J (n+1) (.tup ds)
 | lst (n ds):(∀d∈ds,b0J n d)->ds.length<=lim->b0J (n+1) (.lst ds)
theorem b1v (i:Int):dEq (.int i) (.int i)=okB true:=by unfold dEq eqF;simp
theorem a7C (i:Str):dEq (.str i) (.str i)=okB true:=by unfold dEq eqF;simp
section
variable {ρ ρ' ρ1:MEnv} {a b c:ME}
theorem a9e {α:Type} {bd:MB} {cond elt:ME} {g:α->D} {f:α->D} {p:α->Bool}:∀(xs:List α) (acc:List D),(∀x∈xs,∃ρ1,bd (g x) ρ=some ρ1/\cond ρ1=okB (p x)/\(p x=true->∃s,elt ρ1=some (.ok s)/\s.val=f x))->acc.length+xs.length<=lim->a6J bd cond elt ρ (xs.map g) acc=okL (acc++(xs.filter p).map f)
 | [],acc,_,hl=>by
  rw [map_nil]
  unfold a6J
  rw [if_pos (by simpa using hl)]
  simp
 | x::xs,acc,h,hl=>by
  obtain ⟨ρ1,e1,e2,e3⟩:=h x mem_cons_self
  rw [map_cons]
  unfold a6J
  rw [e1]
  dsimp only
  rw [e2]
  show (if p x=true then (a1h (elt ρ1) fun y=>a6J bd cond elt ρ (xs.map g) (acc++[y])) else a6J bd cond elt ρ (xs.map g) acc)=_
  rw [length_cons] at hl
  by_cases hp:p x=true
  ·obtain ⟨s,e4,e5⟩:=e3 hp
   rw [if_pos hp,e4]
   show a6J bd cond elt ρ (xs.map g) (acc++[s.val])=_
   rw [e5,a9e xs (acc++[f x]) (fun y hy=>h y (mem_cons_of_mem _ hy)) (by rw [length_append,length_singleton];omega)]
   simp [hp]
  ·rw [if_neg hp,a9e xs acc (fun y hy=>h y (mem_cons_of_mem _ hy)) (by omega)]
   simp [hp]
theorem a9d {α:Type} {js:List Nat} {it:MI} {bd:MB} {cond elt:ME} (xs:List α) (g:α->D) (p:α->Bool) (f:α->D) (hi:it ρ=some (.ok (xs.map g))) (hl:xs.length<=lim)
  (h:∀x∈xs,∃ρ1,bd (g x) (a1q js ρ)=some ρ1/\cond ρ1=okB (p x)/\(p x=true->∃s,elt ρ1=some (.ok s)/\s.val=f x)):a1p js it bd cond elt ρ=okL ((xs.filter p).map f):=by
 unfold a1p
 rw [hi]
 dsimp only
 rw [if_pos (by rw [length_map];exact hl),a9e xs [] h (by simpa using hl)]
 rfl
theorem a1S {α:Type} {js:List Nat} {it:MI} {bd:MB} {elt:ME} (xs:List α) (g:α->D) (f:α->D) (hi:it ρ=some (.ok (xs.map g))) (hl:xs.length<=lim)
  (h:∀x∈xs,∃ρ1,bd (g x) (a1q js ρ)=some ρ1/\∃s,elt ρ1=some (.ok s)/\s.val=f x):a1p js it bd a2o elt ρ=okL (xs.map f):=by
 rw [a9d xs g (fun _=>true) f hi hl fun x hx=>?_]
 ·rw [List.filter_eq_self.mpr (fun _ _=>rfl)]
 ·obtain ⟨ρ1,e1,e2⟩:=h x hx
  exact ⟨ρ1,e1,rfl,fun _=>e2⟩
theorem rngN (lo:Nat) (hi:Nat):rng lo hi=(List.range (hi - lo)).map fun k:Nat=>D.int (lo+k:Nat):=by
 unfold rng
 have:((hi:Int) - (lo:Int)).toNat=hi - lo:=by omega
 rw [this]
 exact List.map_congr_left fun k _=>by congr 1
theorem b36 {i j:Int} (h0:0<=j) (h1:j<=1000000) (h2:i.natAbs<2 ^ 64):dShl (.int i) (.int j)=okI (i * 2 ^ j.toNat):=by unfold dShl;exact if_pos ⟨h0,h1,h2⟩
theorem bor_nat (i j:Nat):dBor (.int i) (.int j)=okI ((i ||| j:Nat):Int):=by
 show (if 0<=(i:Int)/\0<=(j:Int) then okI (((i:Int).toNat ||| (j:Int).toNat:Nat):Int) else none)=_
 rw [if_pos (by omega),toNat_natCast,toNat_natCast]
theorem le_d (i j:Int):dLe (.int i) (.int j)=okB (decide (i<=j)):=rfl
theorem lt_d (i j:Int):dLt (.int i) (.int j)=okB (decide (i<j)):=rfl
theorem gt_d (i j:Int):dGt (.int i) (.int j)=okB (decide (j<i)):=rfl
theorem eq_d (i j:Int):dEq (.int i) (.int j)=okB (decide (i=j)):=rfl
theorem ne_d (i j:Int):dNe (.int i) (.int j)=okB (!decide (i=j)):=rfl
theorem le_t {i j:Int} (h:i<=j):dLe (.int i) (.int j)=okB true:=by rw [le_d,decide_eq_true h]
theorem le_f {i j:Int} (h:¬i<=j):dLe (.int i) (.int j)=okB false:=by rw [le_d,decide_eq_false h]
theorem lt_t {i j:Int} (h:i<j):dLt (.int i) (.int j)=okB true:=by rw [lt_d,decide_eq_true h]
theorem lt_f {i j:Int} (h:¬i<j):dLt (.int i) (.int j)=okB false:=by rw [lt_d,decide_eq_false h]
theorem gt_t {i j:Int} (h:j<i):dGt (.int i) (.int j)=okB true:=by rw [gt_d,decide_eq_true h]
theorem gt_f {i j:Int} (h:¬j<i):dGt (.int i) (.int j)=okB false:=by rw [gt_d,decide_eq_false h]
theorem eq_t {i j:Int} (h:i=j):dEq (.int i) (.int j)=okB true:=by rw [eq_d,decide_eq_true h]
theorem eq_f {i j:Int} (h:¬i=j):dEq (.int i) (.int j)=okB false:=by rw [eq_d,decide_eq_false h]
theorem ne_t {i j:Int} (h:¬i=j):dNe (.int i) (.int j)=okB true:=by rw [ne_d,decide_eq_false h];rfl
theorem ne_f {i j:Int} (h:i=j):dNe (.int i) (.int j)=okB false:=by rw [ne_d,decide_eq_true h];rfl
theorem a77 {F:List D->Option R} {e1 e2 e3 e4:ME} {s1 s2 s3 s4:S} {r:Option R} (h1:e1 ρ=some (.ok s1)) (h2:e2 ρ=some (.ok s2)) (h3:e3 ρ=some (.ok s3)) (h4:e4 ρ=some (.ok s4)) (h:F [s1.val,s2.val,s3.val,s4.val]=r):a0l F [e1,e2,e3,e4] ρ=r:=by
 unfold a0l a1e;rw [h1];dsimp only [a1h];unfold a1e;rw [h2];dsimp only [a1h];unfold a1e;rw [h3];dsimp only [a1h];unfold a1e;rw [h4];exact h
theorem call6 {F:List D->Option R} {e1 e2 e3 e4 e5 e6:ME} {s1 s2 s3 s4 s5 s6:S} {r:Option R} (h1:e1 ρ=some (.ok s1)) (h2:e2 ρ=some (.ok s2)) (h3:e3 ρ=some (.ok s3)) (h4:e4 ρ=some (.ok s4)) (h5:e5 ρ=some (.ok s5)) (h6:e6 ρ=some (.ok s6)) (h:F [s1.val,s2.val,s3.val,s4.val,s5.val,s6.val]=r):a0l F [e1,e2,e3,e4,e5,e6] ρ=r:=by
 unfold a0l a1e;rw [h1];dsimp only [a1h];unfold a1e;rw [h2];dsimp only [a1h];unfold a1e;rw [h3];dsimp only [a1h];unfold a1e;rw [h4];dsimp only [a1h];unfold a1e;rw [h5];dsimp only [a1h];unfold a1e;rw [h6];exact h
theorem a2V {f:D->D->Option R} {a b:ME} {ρ:MEnv}:eBin f a b ρ=a1h (a ρ) (fun x=>a1h (b ρ) (f x)):=rfl
theorem a3s {i j:Int} (h:0<j) (h2:j<1073741824):a4a (.int i) (.int j)=okI (i / j):=by unfold a4a;exact if_pos ⟨h,h2⟩
theorem neg_d (i:Int):dNeg (.int i)=okI (-i):=rfl
theorem int_t:dInt (.bl true)=okI 1:=rfl
theorem int_f:dInt (.bl false)=okI 0:=rfl
theorem a56:lim=1000000:=rfl
theorem b3j {d:D} {ds:List D}:dIx (.lst (d::ds)) (.int 0)=okD d:=a3H (n:=0) rfl
theorem b3i {d e:D} {ds:List D}:dIx (.lst (d::e::ds)) (.int 1)=okD e:=a3H (n:=1) rfl
theorem ix_l2 {d e f:D} {ds:List D}:dIx (.lst (d::e::f::ds)) (.int 2)=okD f:=a3H (n:=2) rfl
theorem a0U {d:D} {ds:List D}:dIx (.tup (d::ds)) (.int 0)=okD d:=ix_tup (n:=0) rfl
theorem a0Z {d e:D} {ds:List D}:dIx (.tup (d::e::ds)) (.int 1)=okD e:=ix_tup (n:=1) rfl
theorem a2R {d e f:D} {ds:List D}:dIx (.tup (d::e::f::ds)) (.int 2)=okD f:=ix_tup (n:=2) rfl
theorem b1q {d e f g:D} {ds:List D}:dIx (.tup (d::e::f::g::ds)) (.int 3)=okD g:=ix_tup (n:=3) rfl
theorem b1T {a b:ME} {ρ:MEnv} {i j:Int} (h:a ρ=okI i) (h2:b ρ=okI j) (hr:a5L i=true) (hr2:a5L j=true):a6a a b ρ=some (.ok (rng i j)):=by
 unfold a6a iArg
 rw [h];dsimp only [S.val];rw [h2];dsimp only [S.val];rw [if_pos ⟨hr,hr2⟩]
theorem b0l {α:Type} {bd:MB} {body:MC} (g:α->D) (Iv:List α->MEnv->Prop):∀(xs pre:List α) (ρ:MEnv),Iv pre ρ->(∀(q:List α) (x:α) (post:List α) (ρ:MEnv),pre++xs=q++x::post->Iv q ρ->∃ρ1 ρ2,bd (g x) ρ=some ρ1/\(body ρ1=some (.next ρ2)\/body ρ1=some (.cont ρ2))/\Iv (q++[x]) ρ2)->
  ∃ρ',forD bd body (xs.map g) ρ=some (.next ρ')/\Iv (pre++xs) ρ'
 | [],pre,ρ,h,_=>⟨ρ,rfl,by simpa using h⟩
 | x::xs,pre,ρ,h,hs=>by
  obtain ⟨ρ1,ρ2,e1,e2,h2⟩:=hs pre x xs ρ rfl h
  obtain ⟨ρ',e3,h3⟩:=b0l g Iv xs (pre++[x]) ρ2 h2 fun q y post ρ hy hi=>hs q y post ρ (by rw [←hy];simp) hi
  refine ⟨ρ',?_,by simpa using h3⟩
  rw [map_cons]
  unfold forD
  rw [e1]
  dsimp only
  rcases e2 with e2|e2 <;> rw [e2] <;> exact e3
theorem a6u {α:Type} {bd:MB} {body:MC} (g:α->D) (Iv:List α->MEnv->Prop) (xs:List α) {ρ:MEnv} (h0:Iv [] ρ) (hs:∀(q:List α) (x:α) (post:List α) (ρ:MEnv),xs=q++x::post->Iv q ρ->∃ρ1 ρ2,bd (g x) ρ=some ρ1/\(body ρ1=some (.next ρ2)\/body ρ1=some (.cont ρ2))/\Iv (q++[x]) ρ2):
  ∃ρ',forD bd body (xs.map g) ρ=some (.next ρ')/\Iv xs ρ':=by
 have:=b0l (bd:=bd) (body:=body) g Iv xs [] ρ h0 (by simpa using hs)
 simpa using this
end
section
variable {ρ:MEnv} {a b e1 e2 e3 e4:ME} {s s1 s2 s3 s4:S} {o o1:O} {r:Option O} {q:Option R} {F:a4U} {c:String} {f m:Str} {ns:List Str} {ds:List D} {cs:List String}
theorem a9j (h:e1 ρ=some (.ok s1)) (h2:F o [s1.val]=r):a5M F [e1] ρ o=r:=by unfold a5M a6w;rw [h];exact h2
theorem base2 (h:e1 ρ=some (.ok s1)) (h':e2 ρ=some (.ok s2)) (h2:F o [s1.val,s2.val]=r):a5M F [e1,e2] ρ o=r:=by
 unfold a5M a6w a6w;rw [h];dsimp only;rw [h'];exact h2
theorem seqI {g h:MG} (h1:g ρ o=some o1) (h2:h ρ o1=r):a4O g h ρ o=r:=by unfold a4O;rw [h1];exact h2
theorem a6Y {np n:Nat} {g:MG} (hl:ds.length+1=np) (h:g (none::a1N (n - 1) ds) o=r):fnI np n g o ds=r:=by unfold fnI;rw [if_pos hl];exact h
theorem a9y (h:e1 ρ=some (.ok s)) (hc:cs.contains c=true) (hl:ns.length=ds.length) (h9:ns.length<900):a74 cs f e1 ρ (.obj c ns ds)=some (.obj c (putN f ns) (putD f s.val ns ds)):=by
 unfold a74;rw [h];dsimp only;rw [if_pos ⟨hc,hl,h9⟩]
theorem make0 (h:F (.obj c [] []) []=some o):a45 c F [] ρ=some (.ok (.own o)):=by unfold a45 a1e;dsimp only;rw [h]
theorem make1 (h1:e1 ρ=some (.ok s1)) (h:F (.obj c [] []) [s1.val]=some o):a45 c F [e1] ρ=some (.ok (.own o)):=by
 unfold a45 a1e;rw [h1];dsimp only [a1h];unfold a1e;dsimp only;rw [h]
theorem b4Y (h1:e1 ρ=some (.ok s1)) (h2:e2 ρ=some (.ok s2)) (h:F (.obj c [] []) [s1.val,s2.val]=some o):a45 c F [e1,e2] ρ=some (.ok (.own o)):=by
 unfold a45 a1e;rw [h1];dsimp only [a1h];unfold a1e;rw [h2];dsimp only [a1h];unfold a1e;dsimp only;rw [h]
theorem make3 (h1:e1 ρ=some (.ok s1)) (h2:e2 ρ=some (.ok s2)) (h3:e3 ρ=some (.ok s3)) (h:F (.obj c [] []) [s1.val,s2.val,s3.val]=some o):a45 c F [e1,e2,e3] ρ=some (.ok (.own o)):=by
 unfold a45 a1e;rw [h1];dsimp only [a1h];unfold a1e;rw [h2];dsimp only [a1h];unfold a1e;rw [h3];dsimp only [a1h];unfold a1e;dsimp only;rw [h]
theorem meth_h {tb:String->Option (List D->Option R)} {as:List ME} {G:List D->Option R} (ho:a ρ=some (.ok s)) (hv:s.val=.obj c ns ds) (hn:ns.contains m=false) (ht:tb c=some G):b3v m tb a as ρ=a1e as ρ fun vs=>G (.obj c ns ds::vs):=by
 unfold b3v;rw [ho];dsimp only [a1h];rw [hv];dsimp only;rw [hn,if_neg Bool.false_ne_true,ht]
theorem meth1 {tb:String->Option (List D->Option R)} {G:List D->Option R} (ho:a ρ=some (.ok s)) (hv:s.val=.obj c ns ds) (hn:ns.contains m=false) (ht:tb c=some G) (h1:e1 ρ=some (.ok s1)) (h:G [.obj c ns ds,s1.val]=q):b3v m tb a [e1] ρ=q:=by
 rw [meth_h ho hv hn ht];exact a02 (F:=fun vs=>G (.obj c ns ds::vs)) h1 h
theorem fld_e {d:D} (h:a ρ=some (.ok s)) (hv:s.val=.obj c ns ds) (hc:cs.contains c=true) (hf:fldD f ns ds=some d):eUn (dFld cs f) a ρ=okD d:=by
 refine un_e h ?_
 rw [hv]
 show (if cs.contains c=true then (fldD f ns ds).bind okD else none)=_
 rw [if_pos hc,hf]
 rfl
theorem ifE_t (h:a ρ=okB true) (h2:e1 ρ=q):eIf a e1 e2 ρ=q:=by unfold eIf;rw [h];exact h2
theorem ifE_f (h:a ρ=okB false) (h2:e2 ρ=q):eIf a e1 e2 ρ=q:=by unfold eIf;rw [h];exact h2
theorem b4c {i j:Nat} {k:Nat} (h1:e1 ρ=some (.ok s)) (h0:ρ[i]?=some (some (.own (.lst ds)))) (h2:e2 ρ=okI k) (hk:k<ds.length):a4h i e2 e1 ρ=some (.next (ρ.set i (some (.own (.lst (ds.set k s.val)))))):=by
 unfold a4h ownL;rw [h1];dsimp only [a5N];rw [h0];dsimp only;rw [h2];dsimp only [S.val]
 have:ixD ds.length (k:Int)=some k:=by unfold ixD;rw [if_pos (by omega),if_pos (by omega),toNat_natCast]
 rw [this]
theorem cat_t {xs ys:List D} (h:xs.length+ys.length<=100000):dAdd (.tup xs) (.tup ys)=okD (.tup (xs++ys)):=by
 show (if xs.length+ys.length<=lim then okD (.tup (xs++ys)) else none)=_
 rw [if_pos (le_trans h (by decide))]
theorem a60 {xs ys:List D} (h:xs.length+ys.length<=100000):dAdd (.lst xs) (.lst ys)=okL (xs++ys):=by
 show (if xs.length+ys.length<=lim then okL (xs++ys) else none)=_
 rw [if_pos (le_trans h (by decide))]
theorem callB_e {G:List D->Option R} {as:List ME} {d:D} (h:a1e as ρ G=okD d) (hf:flat d=true):a0r G as ρ=okD d:=by
 unfold a0r;rw [h];show (if flat d=true then okD d else none)=_;rw [if_pos hf]
theorem a2l {x y:Str} (h:x=y):dEq (.str x) (.str y)=okB true:=by subst h;exact a7C x
theorem a0G {x y:Str} (h:x≠y):dEq (.str x) (.str y)=okB false:=by unfold dEq eqF;simp [h]
theorem a8Q {x y:Str} (h:x≠y):dNe (.str x) (.str y)=okB true:=by unfold dNe eqF;simp [h]
theorem b03 {x y:Str} (h:x=y):dNe (.str x) (.str y)=okB false:=by unfold dNe eqF;simp [h]
end
end L3
namespace Bell
open PySem L3
def a54 (G:List D->Option R):MC:=
 (sSeq (sIf (eOr (eUn (dIsT "tuple") (eVar 1)) (eUn (dIsT "list") (eVar 1))) (sSeq (sIf (eAnd (eUn (dIsT "tuple") (eVar 1)) (eNot (eUn (dIsT "tuple") (eVar 0)))) (sRet (eC (.bl false))) a0F) (sSeq (sIf (eAnd (eUn (dIsT "list") (eVar 1)) (eNot (eUn (dIsT "list") (eVar 0)))) (sRet (eC (.bl false))) a0F) (sSeq (sIf (eBin dNe (a0r (f1 dLen) [(eAny 0)]) (a0r (f1 dLen) [(eAny 1)])) (sRet (eC (.bl false))) a0F) (sRet (a0l (f1 dAll) [(a1p [2] (a08 (a0r (f1 dLen) [(eAny 1)])) (a09 2) a2o (a0l G [(eBin dIx (eVar 0) (eVar 2)),(eBin dIx (eVar 1) (eVar 2))]))]))))) a0F) (sSeq (sIf (eUn dIsN (eVar 1)) (sRet (eUn dIsN (eVar 0))) a0F) (sSeq (sIf (eUn (dIsT "str") (eVar 1)) (sRet (eAnd (eUn (dIsT "str") (eVar 0)) (eBin dEq (eVar 0) (eVar 1)))) a0F) (sRet (eAnd (eUn (dIsT "int") (eVar 0)) (eAnd (eNot (eUn (dIsT "bool") (eVar 0))) (eBin dEq (eVar 0) (eVar 1))))))))
def a39:List D->Option R:=Nat.rec (motive:=fun _=>List D->Option R) (fun _=>none) (fun _ G=>fnD 2 3 (a54 G)) 8
def b1k:MC:=
 (sSeq (sSet 1 (eLst [])) (sSeq (sFor (iSeq (eBin dIx (eVar 0) (eC (.int 0)))) (a09 2) (sDem 1 (sSet 1 (eBin dAdd (eVar 1) (a0l (f1 b3y) [(eBin dIx (eVar 2) (eC (.int 1)))]))))) (sDem 1 (sRet (eTup [(eTup [(eTup [(eC (.int 0)),(eC (.int 0)),(eC (.int 0)),(eTup [])])]),(a0l (f1 a3F) [(eVar 1)])])))))
def a4R:List D->Option R:=fnD 1 3 b1k
def b1i:MC:=
 (sSeq (sSet 2 (a0l (f1 dSum) [(a1p [4] (a08 (eVar 1)) (a09 4) a2o (a0r (f1 dLen) [(eBin dIx (eBin dIx (eVar 0) (eVar 4)) (eC (.int 1)))]))])) (sRet (a1p [3] (a08 (a0r (f1 dLen) [(eBin dIx (eBin dIx (eVar 0) (eVar 1)) (eC (.int 1)))])) (a09 3) a2o (eBin dAdd (eVar 2) (eVar 3)))))
def a1z:List D->Option R:=fnD 2 5 b1i
def b3e:MC:=
 (sSeq (sIf (eAnd (eBin dNe (eBin dIx (eVar 1) (eC (.int 0))) (eC (.str "is"))) (eBin dNe (eBin dIx (eVar 1) (eC (.int 0))) (eC (.str "most")))) (sRet (eC (.bl true))) a0F) (sSeq (sSet 3 (a0l a1z [(eVar 0),(eBin dIx (eVar 1) (eC (.int 1)))])) (sSeq (sSet 4 (a0l a1z [(eVar 0),(eBin dIx (eVar 1) (eC (.int 2)))])) (sSeq (sFor (a08 (a0r (f1 dLen) [(eAny 3)])) (a09 5) (sDem 4 (sSeq (sSet 6 (eBin dAdd (eBin dIx (eVar 2) (eBin dIx (eVar 4) (eVar 5))) (eBin dIx (eVar 1) (eC (.int 3))))) (sDem 3 (sIf (eOr (eBin dGt (eBin dIx (eVar 2) (eBin dIx (eVar 3) (eVar 5))) (eVar 6)) (eAnd (eBin dEq (eBin dIx (eVar 1) (eC (.int 0))) (eC (.str "is"))) (eBin dLt (eBin dIx (eVar 2) (eBin dIx (eVar 3) (eVar 5))) (eVar 6)))) (sRet (eC (.bl false))) a0F))))) (sRet (eC (.bl true)))))))
def a3m:List D->Option R:=fnD 3 7 b3e
def a8W:MC:=
 (sSeq (sIf (eOr (eBin dEq (eBin dIx (eVar 1) (eC (.int 0))) (eC (.str "still"))) (eBin dEq (eBin dIx (eVar 1) (eC (.int 0))) (eC (.str "none")))) (sRet (eLst [])) a0F) (sSeq (sIf (eOr (eBin dEq (eBin dIx (eVar 1) (eC (.int 0))) (eC (.str "copy"))) (eOr (eBin dEq (eBin dIx (eVar 1) (eC (.int 0))) (eC (.str "is"))) (eBin dEq (eBin dIx (eVar 1) (eC (.int 0))) (eC (.str "most"))))) (sRet (eLst [(eBin dIx (eVar 1) (eC (.int 1))),(eBin dIx (eVar 1) (eC (.int 2)))])) a0F) (sSeq (sSet 3 (a0r (f1 dLen) [(eBin dIx (eBin dIx (eVar 0) (eBin dIx (eVar 1) (eC (.int 1)))) (eC (.int 1)))])) (sSeq (sIf (eAnd (eBin dEq (eBin dIx (eVar 1) (eC (.int 0))) (eC (.str "anew"))) (eOr (eBin dEq (eVar 2) (eC (.int 0))) (eBin dEq (eVar 2) (eBin dAdd (eVar 3) (eC (.int 1)))))) (sRet (eLst [(eBin dIx (eVar 1) (eC (.int 3)))])) a0F) (sSeq (sIf (eAnd (eBin dEq (eBin dIx (eVar 1) (eC (.int 0))) (eC (.str "anew"))) (eBin dLe (eVar 2) (eVar 3))) (sRet (eLst [(eBin dIx (eVar 1) (eC (.int 2)))])) a0F) (sRet (eLst [(eBin dIx (eVar 1) (eC (.int 1)))])))))))
def a2g:List D->Option R:=fnD 3 4 a8W
def b0b:MC:=
 (sSeq (sSet 2 (eBin dIx (eBin dIx (eVar 1) (eC (.int 0))) (eC (.int (-1))))) (sSeq (sSet 3 (eBin dIx (eBin dIx (eBin dIx (eVar 0) (eC (.int 1))) (eBin dIx (eVar 2) (eC (.int 0)))) (eC (.int 2)))) (sSeq (sIf (eBin dEq (eBin dIx (eVar 2) (eC (.int 1))) (a0r (f1 dLen) [(eAny 3)])) (sRet (eTup [])) a0F) (sSeq (sSet 4 (eBin dIx (eBin dIx (eVar 3) (eBin dIx (eVar 2) (eC (.int 1)))) (eC (.int 0)))) (sSeq (sSet 5 (a0l a2g [(eBin dIx (eVar 0) (eC (.int 0))),(eVar 4),(eBin dIx (eVar 2) (eC (.int 2)))])) (sSeq (sSet 6 (eLst [])) (sSeq (sFor (iSeq (a4Z (eBin dIx (eVar 1) (eC (.int 0))) none (some (eC (.int (-1)))))) (a09 7) (sSeq (sSet 8 (eBin dIx (eBin dIx (eBin dIx (eVar 0) (eC (.int 1))) (eBin dIx (eVar 7) (eC (.int 0)))) (eC (.int 2)))) (sFor (a6a (eBin dIx (eVar 7) (eC (.int 1))) (a0l (f2 dMin2) [(eBin dAdd (eBin dIx (eVar 7) (eC (.int 1))) (eC (.int 2))),(a0r (f1 dLen) [(eAny 8)])])) (a09 9) (sSeq (sSet 10 (eOr (eBin dEq (eVar 9) (eBin dIx (eVar 7) (eC (.int 1)))) (eBin dGt (eBin dIx (eVar 7) (eC (.int 2))) (eC (.int 0))))) (sDem 5 (sIf (eAnd (eVar 10) (eAnd (eBin dEq (eBin dIx (eBin dIx (eBin dIx (eVar 8) (eVar 9)) (eC (.int 0))) (eC (.int 0))) (eC (.str "none"))) (eBin (dIn false) (eBin dIx (eBin dIx (eBin dIx (eVar 8) (eVar 9)) (eC (.int 0))) (eC (.int 1))) (eVar 5)))) (a1m 6 (eTup [(eBin dIx (eVar 7) (eC (.int 0))),(eVar 9)])) a0F)))))) (sSeq (sIf (eNot (a0l a3m [(eBin dIx (eVar 0) (eC (.int 0))),(eVar 4),(eBin dIx (eVar 1) (eC (.int 1)))])) (a1m 6 (eTup [(eBin dIx (eVar 2) (eC (.int 0))),(eBin dIx (eVar 2) (eC (.int 1)))])) a0F) (sDem 6 (sRet (a0l (f1 a3F) [(eVar 6)])))))))))))
def a1X:List D->Option R:=fnD 2 11 b0b
def b1h:MC:=
 (sSeq (sSet 2 (eC (.int 0))) (sSeq (sIf (eBin dGt (a0r (f1 dLen) [(eAny 0)]) (eC (.int 0))) (sSet 2 (eBin dIx (eVar 0) (eBin dMod (eVar 1) (a0r (f1 dLen) [(eAny 0)])))) a0F) (sSeq (sSet 3 (eBin dMod (eBin dAdd (eBin dAdd (eBin dMul (eBin dMod (eVar 2) (eC (.int 1000003))) (eC (.int 48271))) (eBin dMul (eBin dMul (eVar 1) (eVar 1)) (eC (.int 7919)))) (eC (.int 1))) (eC (.int 65521)))) (sRet (eBin dMod (eBin dMul (eVar 3) (eVar 3)) (eC (.int 65519)))))))
def a0y:List D->Option R:=fnD 2 4 b1h
def a7n:MC:=
 (sDem 1 (sSeq (sSet 1 (a0l (f1 b3y) [(eVar 1)])) (sSeq (sSet 3 (eBin dIx (eVar 0) (eC (.int 1)))) (sSeq (sIf (eBin dEq (eBin dIx (eVar 0) (eC (.int 0))) (eC (.str "lay"))) (a4h 1 (eVar 3) (eBin dIx (eVar 0) (eC (.int 2)))) a0F) (sSeq (sIf (eBin dEq (eBin dIx (eVar 0) (eC (.int 0))) (eC (.str "tick"))) (a4h 1 (eVar 3) (eBin dAdd (a0r (f2 dIx) [(eAny 1),(eVar 3)]) (eC (.int 1)))) a0F) (sSeq (sIf (eBin dEq (eBin dIx (eVar 0) (eC (.int 0))) (eC (.str "move"))) (a4h 1 (eVar 3) (a0r (f2 dIx) [(eAny 1),(eBin dIx (eVar 0) (eC (.int 2)))])) a0F) (sSeq (sIf (eBin dEq (eBin dIx (eVar 0) (eC (.int 0))) (eC (.str "take"))) (sDem 1 (sSet 2 (eBin dAdd (eVar 2) (eTup [(eBin dIx (eVar 1) (eVar 3))])))) a0F) (sSeq (sIf (eBin dEq (eBin dIx (eVar 0) (eC (.int 0))) (eC (.str "back"))) (a4h 1 (eVar 3) (eBin dAdd (eBin dIx (eVar 2) (eBin dIx (eBin dIx (eVar 0) (eC (.int 2))) (eC (.int 0)))) (eBin dIx (eBin dIx (eVar 0) (eC (.int 2))) (eC (.int 1))))) a0F) (sDem 1 (sRet (eTup [(a0l (f1 a3F) [(eVar 1)]),(eVar 2)])))))))))))
def a2T:List D->Option R:=fnD 3 4 a7n
def b1g:MC:=
 (sSeq (sIf (eBin dEq (eBin dIx (eVar 1) (eC (.int 0))) (eC (.str "still"))) (sRet (a1p [6] (a08 (eBin dIx (eVar 1) (eC (.int 1)))) (a09 6) a2o (eTup [(eC (.str "rest")),(eC (.int 0)),(eC (.int 0))]))) a0F) (sSeq (sSet 2 (a0l a1z [(eVar 0),(eBin dIx (eVar 1) (eC (.int 1)))])) (sSeq (sIf (eBin dEq (eBin dIx (eVar 1) (eC (.int 0))) (eC (.str "put"))) (sDem 2 (sRet (a1p [6] (a08 (a0r (f1 dLen) [(eAny 2)])) (a09 6) a2o (eTup [(eC (.str "lay")),(eBin dIx (eVar 2) (eVar 6)),(eBin dIx (eBin dIx (eVar 1) (eC (.int 2))) (eVar 6))])))) a0F) (sSeq (sIf (eBin dEq (eBin dIx (eVar 1) (eC (.int 0))) (eC (.str "tick"))) (sDem 2 (sRet (eLst [(eTup [(eC (.str "tick")),(eBin dIx (eVar 2) (eC (.int 0))),(eC (.int 0))])]))) a0F) (sSeq (sIf (eBin dEq (eBin dIx (eVar 1) (eC (.int 0))) (eC (.str "grow"))) (sDem 2 (sSeq (sSet 3 (a1p [7] (iSeq (eVar 2)) (a09 7) a2o (eTup [(eC (.str "take")),(eVar 7),(eC (.int 0))]))) (sDem 3 (sDem 2 (sRet (eBin dAdd (eVar 3) (a1p [6] (a08 (a0r (f1 dLen) [(eAny 2)])) (a09 6) a2o (eTup [(eC (.str "back")),(eBin dIx (eVar 2) (eVar 6)),(eTup [(eVar 6),(eBin dIx (eVar 1) (eC (.int 2)))])])))))))) a0F) (sSeq (sIf (eBin dEq (eBin dIx (eVar 1) (eC (.int 0))) (eC (.str "copy"))) (sSeq (sSet 4 (a0l a1z [(eVar 0),(eBin dIx (eVar 1) (eC (.int 2)))])) (sDem 4 (sDem 2 (sRet (a1p [6] (a08 (a0r (f1 dLen) [(eAny 2)])) (a09 6) a2o (eTup [(eC (.str "move")),(eBin dIx (eVar 2) (eVar 6)),(eBin dIx (eVar 4) (eVar 6))])))))) a0F) (sSeq (sIf (eBin dEq (eBin dIx (eVar 1) (eC (.int 0))) (eC (.str "anew"))) (sSeq (sSet 5 (eBin dIx (a0l a1z [(eVar 0),(eBin dIx (eVar 1) (eC (.int 3)))]) (eC (.int 0)))) (sSeq (sSet 3 (eBin dAdd (eLst [(eTup [(eC (.str "take")),(eVar 5),(eC (.int 0))])]) (a1p [7] (iSeq (a0l a1z [(eVar 0),(eBin dIx (eVar 1) (eC (.int 2)))])) (a09 7) a2o (eTup [(eC (.str "take")),(eVar 7),(eC (.int 0))])))) (sDem 3 (sDem 2 (sRet (eBin dAdd (eBin dAdd (eVar 3) (eLst [(eTup [(eC (.str "same")),(eVar 5),(eC (.int 0))])])) (a1p [6] (a08 (a0r (f1 dLen) [(eAny 2)])) (a09 6) a2o (eTup [(eC (.str "back")),(eBin dIx (eVar 2) (eVar 6)),(eTup [(eBin dAdd (eVar 6) (eC (.int 1))),(eC (.int 0))])])))))))) a0F) (sRet (eLst [(eTup [(eC (.str "rest")),(eC (.int 0)),(eC (.int 0))])])))))))))
def a4P:List D->Option R:=fnD 2 8 b1g
def b0c:MC:=
 (sSeq (sSet 2 (eBin dIx (eBin dIx (eVar 1) (eC (.int 0))) (eC (.int (-1))))) (sSeq (sSet 3 (a4Z (eBin dIx (eVar 1) (eC (.int 0))) none (some (eC (.int (-1)))))) (sSeq (sSet 4 (eBin dIx (eBin dIx (eBin dIx (eVar 0) (eC (.int 1))) (eBin dIx (eVar 2) (eC (.int 0)))) (eC (.int 2)))) (sSeq (sIf (eBin dEq (eBin dIx (eVar 2) (eC (.int 1))) (a0r (f1 dLen) [(eAny 4)])) (sRet (eC .non)) a0F) (sSeq (sSet 5 (a0l a4P [(eBin dIx (eVar 0) (eC (.int 0))),(eBin dIx (eBin dIx (eVar 4) (eBin dIx (eVar 2) (eC (.int 1)))) (eC (.int 0)))])) (sDem 5 (sSeq (sSet 6 (eBin dIx (eVar 5) (eBin dIx (eVar 2) (eC (.int 2))))) (sSeq (sSet 7 (a0l a2T [(eVar 6),(eBin dIx (eVar 1) (eC (.int 1))),(eBin dIx (eVar 2) (eC (.int 3)))])) (sSeq (sIf (eAnd (eBin dEq (eBin dIx (eVar 6) (eC (.int 0))) (eC (.str "same"))) (eBin dNe (eBin dIx (eBin dIx (eVar 1) (eC (.int 1))) (eBin dIx (eVar 6) (eC (.int 1)))) (eBin dIx (eBin dIx (eVar 2) (eC (.int 3))) (eC (.int 0))))) (sRet (eTup [(eBin dAdd (eVar 3) (eTup [(eTup [(eBin dIx (eVar 2) (eC (.int 0))),(eBin dIx (eVar 2) (eC (.int 1))),(eC (.int 0)),(eTup [])])])),(eBin dIx (eVar 7) (eC (.int 0)))])) a0F) (sSeq (sIf (eBin dLt (eBin dAdd (eBin dIx (eVar 2) (eC (.int 2))) (eC (.int 1))) (a0r (f1 dLen) [(eAny 5)])) (sRet (eTup [(eBin dAdd (eVar 3) (eTup [(eTup [(eBin dIx (eVar 2) (eC (.int 0))),(eBin dIx (eVar 2) (eC (.int 1))),(eBin dAdd (eBin dIx (eVar 2) (eC (.int 2))) (eC (.int 1))),(eBin dIx (eVar 7) (eC (.int 1)))])])),(eBin dIx (eVar 7) (eC (.int 0)))])) a0F) (sSeq (sIf (eAnd (eBin dGt (eBin dIx (eVar 2) (eC (.int 0))) (eC (.int 0))) (eBin dEq (eBin dAdd (eBin dIx (eVar 2) (eC (.int 1))) (eC (.int 1))) (a0r (f1 dLen) [(eAny 4)]))) (sRet (eTup [(eVar 3),(eBin dIx (eVar 7) (eC (.int 0)))])) a0F) (sRet (eTup [(eBin dAdd (eVar 3) (eTup [(eTup [(eBin dIx (eVar 2) (eC (.int 0))),(eBin dAdd (eBin dIx (eVar 2) (eC (.int 1))) (eC (.int 1))),(eC (.int 0)),(eTup [])])])),(eBin dIx (eVar 7) (eC (.int 0)))])))))))))))))
def a2I:List D->Option R:=fnD 2 8 b0c
def b3g:MC:=
 (sRet (eTup [(eBin dAdd (eBin dIx (eVar 0) (eC (.int 0))) (eTup [(eTup [(eVar 1),(eC (.int 0)),(eC (.int 0)),(eTup [])])])),(eBin dIx (eVar 0) (eC (.int 1)))]))
def a3o:List D->Option R:=fnD 2 2 b3g
def b3c:MC:=
 (sSeq (sSet 2 (eBin dIx (eBin dIx (eBin dIx (eVar 0) (eC (.int 1))) (eBin dIx (eVar 1) (eC (.int 0)))) (eC (.int 2)))) (sSeq (sIf (eBin dEq (eBin dIx (eVar 1) (eC (.int 1))) (a0r (f1 dLen) [(eAny 2)])) (sRet (eC (.int 0))) a0F) (sRet (eBin dIx (eBin dIx (eVar 2) (eBin dIx (eVar 1) (eC (.int 1)))) (eC (.int 1))))))
def a4F:List D->Option R:=fnD 2 3 b3c
def b0a:MC:=
 (sSeq (sSet 2 (eC (.int 0))) (sSeq (sFor (iSeq (eVar 1)) (a09 3) (sSet 2 (eBin dBor (eVar 2) (a0l a4F [(eVar 0),(eVar 3)])))) (sSeq (sSet 4 (eBin dIx (eBin dIx (eBin dIx (eVar 0) (eC (.int 1))) (eBin dIx (eBin dIx (eVar 1) (eC (.int (-1)))) (eC (.int 0)))) (eC (.int 1)))) (sSeq (sSet 5 (a1p [6] (iSeq (eBin dIx (eVar 0) (eC (.int 1)))) (a09 6) a2o (eBin dIx (eVar 6) (eC (.int 1))))) (sDem 5 (sRet (a1p [7] (a6a (eC (.int 1)) (a0r (f1 dLen) [(eAny 5)])) (a09 7) (eAnd (eBin dGt (eBin dIx (eVar 5) (eVar 7)) (eVar 4)) (eBin dEq (eBin dMod (eBin a4a (eVar 2) (eBin dShl (eC (.int 1)) (eVar 7))) (eC (.int 2))) (eC (.int 0)))) (eVar 7))))))))
def a3D:List D->Option R:=fnD 2 8 b0a
def b3d:MC:=
 (sSeq (sSet 3 (a0l a3D [(eVar 0),(eBin dIx (eVar 1) (eC (.int 0)))])) (sSeq (sIf (eAnd (eBin dEq (eBin dMod (eVar 2) (eC (.int 3))) (eC (.int 0))) (eBin dGt (a0r (f1 dLen) [(eAny 3)]) (eC (.int 0)))) (sDem 3 (sRet (a0l a3o [(eVar 1),(eBin dIx (eVar 3) (eBin dMod (eBin a4a (eVar 2) (eC (.int 3))) (a0r (f1 dLen) [(eAny 3)])))]))) a0F) (sSeq (sSet 4 (a0l a2I [(eVar 0),(eVar 1)])) (sSeq (sIf (eUn b5B (eVar 4)) (sRet (eVar 4)) a0F) (sSeq (sIf (eBin dGt (a0r (f1 dLen) [(eAny 3)]) (eC (.int 0))) (sDem 3 (sRet (a0l a3o [(eVar 1),(eBin dIx (eVar 3) (eBin dMod (eBin a4a (eVar 2) (eC (.int 3))) (a0r (f1 dLen) [(eAny 3)])))]))) a0F) (sRet (eVar 1)))))))
def a4H:List D->Option R:=fnD 3 5 b3d
def a3C:MC:=
 (sSeq (sSet 2 (a0l a0y [(eVar 0),(eVar 1)])) (sSeq (sSet 3 (a0l a0y [(eVar 0),(eBin dAdd (eVar 1) (eC (.int 1)))])) (sSeq (sIf (eBin dEq (eBin dMod (eVar 2) (eC (.int 3))) (eC (.int 0))) (sRet (eBin dSub (eBin dMod (eVar 3) (eC (.int 5))) (eC (.int 2)))) a0F) (sSeq (sIf (eBin dEq (eBin dMod (eVar 2) (eC (.int 17))) (eC (.int 1))) (sRet (eBin dIx (eLst [(eBin dPow (eC (.int 10)) (eC (.int 9))),(eUn dNeg (eBin dPow (eC (.int 10)) (eC (.int 9))))]) (eBin dMod (eVar 3) (eC (.int 2))))) a0F) (sRet (eBin dSub (eBin dMod (eBin dAdd (eBin dMul (eVar 2) (eC (.int 65519))) (eVar 3)) (eC (.int 2000000001))) (eC (.int 1000000000))))))))
def a0J:List D->Option R:=fnD 2 4 a3C
def b1j:MC:=
 (sSeq (sSet 1 (eBin dAdd (eC (.int 1)) (eBin dMod (a0l a0y [(eVar 0),(eC (.int 3))]) (eC (.int 2))))) (sSeq (sSet 2 (a0l a0y [(eVar 0),(eC (.int 2))])) (sSeq (sSet 2 (eBin dIx (eLst [(eBin dMod (eBin a4a (eVar 2) (eC (.int 16))) (eC (.int 4))),(eBin dAdd (eC (.int 4)) (eBin dMod (eBin a4a (eVar 2) (eC (.int 16))) (eC (.int 5))))]) (a0l (f1 dInt) [(eBin dEq (eBin dMod (eVar 2) (eC (.int 8))) (eC (.int 0)))]))) (sSeq (sSet 3 (eLst [])) (sSeq (sFor (a08 (eVar 2)) (a09 4) (sSeq (sSet 5 (eBin dAdd (eBin dAdd (eC (.int 4)) (eBin dMul (eC (.int 5)) (eVar 4))) (eBin dMul (eC (.int 400)) (eBin a4a (eVar 4) (eC (.int 3)))))) (sSeq (sSet 6 (eLst [(a0l a0J [(eVar 0),(eVar 5)])])) (sSeq (sSet 7 (eBin dMod (a0l a0y [(eVar 0),(eBin dAdd (eVar 5) (eC (.int 2)))]) (eC (.int 5)))) (sSeq (sIf (eOr (eAnd (eBin dEq (eVar 1) (eC (.int 2))) (eBin dGt (eVar 7) (eBin dIx (eLst [(eC (.int 0)),(eC (.int 0)),(eC (.int 2))]) (eBin dMod (eVar 4) (eC (.int 3)))))) (eAnd (eBin dEq (eVar 1) (eC (.int 1))) (eBin dEq (eVar 7) (eC (.int 0))))) (a1m 6 (a0l a0J [(eVar 0),(eBin dAdd (eVar 5) (eC (.int 3)))])) a0F) (sDem 6 (a1m 3 (eTup [(eBin dIx (eC (.str "abcdefgh")) (eVar 4)),(a0l (f1 a3F) [(eVar 6)])])))))))) (sDem 3 (sRet (a0l (f1 a3F) [(eVar 3)]))))))))
def a4Q:List D->Option R:=fnD 1 8 b1j
def b3f:MC:=
 (sSeq (sSet 4 (eBin dMod (a0l a0y [(eVar 0),(eVar 1)]) (eC (.int 11)))) (sSeq (sSet 5 (a0l a0y [(eVar 0),(eBin dAdd (eVar 1) (eC (.int 1)))])) (sSeq (sSet 6 (a0l a0J [(eVar 0),(eBin dAdd (eVar 1) (eC (.int 2)))])) (sSeq (sIf (eOr (eBin dEq (a0r (f1 dLen) [(eAny 2)]) (eC (.int 0))) (eBin dEq (eVar 4) (eC (.int 4)))) (sRet (eTup [(eC (.str "still")),(eBin dAdd (eC (.int 1)) (eBin dMod (eVar 5) (eVar 3)))])) a0F) (sSeq (sSet 7 (eBin dMod (eVar 5) (a0r (f1 dLen) [(eAny 2)]))) (sSeq (sSet 8 (a0r (f1 dLen) [(eBin dIx (eBin dIx (eVar 2) (eVar 7)) (eC (.int 1)))])) (sSeq (sSet 9 (a1p [13] (a08 (a0r (f1 dLen) [(eAny 2)])) (a09 13) (eAnd (eBin dNe (eVar 13) (eVar 7)) (eBin dEq (a0r (f1 dLen) [(eBin dIx (eBin dIx (eVar 2) (eVar 13)) (eC (.int 1)))]) (eVar 8))) (eVar 13))) (sDem 9 (sSeq (sSet 10 (eBin dIx (eBin dAdd (eVar 9) (eLst [(eVar 7)])) (eBin dMod (a0l a0y [(eVar 0),(eBin dAdd (eVar 1) (eC (.int 4)))]) (eBin dAdd (a0r (f1 dLen) [(eAny 9)]) (eC (.int 1)))))) (sSeq (sIf (eOr (eBin dEq (eVar 4) (eC (.int 5))) (eBin dEq (eVar 4) (eC (.int 6)))) (sSeq (sSet 12 (eBin dSub (eBin dIx (eBin dIx (eBin dIx (eVar 2) (eVar 7)) (eC (.int 1))) (eC (.int 0))) (eBin dIx (eBin dIx (eBin dIx (eVar 2) (eVar 10)) (eC (.int 1))) (eC (.int 0))))) (sSeq (sIf (eAnd (eBin dGt (eBin dMod (eBin a4a (eVar 5) (eC (.int 7))) (eC (.int 3))) (eC (.int 0))) (eBin dLe (a0l (f1 dAbs) [(eVar 12)]) (eBin dPow (eC (.int 10)) (eC (.int 9))))) (sSet 6 (eVar 12)) a0F) (sRet (eTup [(eBin dIx (eLst [(eC (.str "is")),(eC (.str "most"))]) (eBin dSub (eVar 4) (eC (.int 5)))),(eVar 7),(eVar 10),(eVar 6)])))) a0F) (sSeq (sIf (eAnd (eBin dEq (eVar 4) (eC (.int 1))) (eBin dNe (eVar 10) (eVar 7))) (sRet (eTup [(eC (.str "copy")),(eVar 7),(eVar 10)])) a0F) (sSeq (sIf (eOr (eBin dEq (eVar 4) (eC (.int 2))) (eAnd (eBin dEq (eVar 4) (eC (.int 3))) (eBin dEq (eVar 8) (eC (.int 2))))) (sRet (eTup [(eC (.str "grow")),(eVar 7),(eVar 6)])) a0F) (sSeq (sIf (eBin dEq (eVar 4) (eC (.int 3))) (sRet (eTup [(eC (.str "tick")),(eVar 7)])) a0F) (sSeq (sIf (eOr (eBin dEq (eVar 4) (eC (.int 7))) (eBin dEq (eVar 4) (eC (.int 10)))) (sRet (eTup [(eC (.str "none")),(eVar 7)])) a0F) (sSeq (sSet 11 (a1p [14] (a08 (a0r (f1 dLen) [(eAny 2)])) (a09 14) (eAnd (eBin dNe (eVar 14) (eVar 7)) (eAnd (eBin dNe (eVar 14) (eVar 10)) (eBin dEq (a0r (f1 dLen) [(eBin dIx (eBin dIx (eVar 2) (eVar 14)) (eC (.int 1)))]) (eC (.int 1))))) (eVar 14))) (sSeq (sIf (eAnd (eBin dEq (eVar 4) (eC (.int 8))) (eAnd (eBin dNe (eVar 10) (eVar 7)) (eBin dGt (a0r (f1 dLen) [(eAny 11)]) (eC (.int 0))))) (sDem 11 (sRet (eTup [(eC (.str "anew")),(eVar 7),(eVar 10),(eBin dIx (eVar 11) (eBin dMod (eBin a4a (eVar 5) (eC (.int 5))) (a0r (f1 dLen) [(eAny 11)])))]))) a0F) (sSeq (sIf (eBin dEq (eVar 8) (eC (.int 1))) (sRet (eTup [(eC (.str "put")),(eVar 7),(eTup [(eVar 6)])])) a0F) (sRet (eTup [(eC (.str "put")),(eVar 7),(eTup [(eVar 6),(a0l a0J [(eVar 0),(eBin dAdd (eVar 1) (eC (.int 5)))])])])))))))))))))))))))
def a3n:List D->Option R:=fnD 4 15 b3f
def b41:MC:=
 (sSeq (sSet 6 (eLst [])) (sSeq (sFor (a08 (eBin dAdd (eC (.int 1)) (eBin dMod (a0l a0y [(eVar 0),(eVar 1)]) (eVar 4)))) (a09 7) (sSeq (sSet 8 (eBin dAdd (eBin dAdd (eVar 1) (eC (.int 3))) (eBin dMul (eC (.int 8)) (eVar 7)))) (sSeq (sSet 9 (eC (.int 0))) (sSeq (sSet 10 (a0l a0y [(eVar 0),(eBin dAdd (eVar 8) (eC (.int 7)))])) (sSeq (sIf (eBin dEq (eBin dMod (eVar 10) (eC (.int 2))) (eC (.int 1))) (sSet 9 (eBin dMul (eC (.int 2)) (eBin dMod (eBin a4a (eVar 10) (eC (.int 2))) (eBin dShl (eC (.int 1)) (eVar 3))))) a0F) (a1m 6 (eTup [(a0l a3n [(eVar 0),(eVar 8),(eVar 2),(eVar 5)]),(eVar 9)]))))))) (sDem 6 (sRet (a0l (f1 a3F) [(eVar 6)])))))
def a4G:List D->Option R:=fnD 6 11 b41
def a8X:MC:=
 (sSeq (sSet 4 (a0l a4Q [(eVar 0)])) (sSeq (sSet 5 (eLst [(eTup [(eC (.str "main")),(eC (.int 0)),(a0l a4G [(eVar 0),(eC (.int 20)),(eVar 4),(eVar 1),(eVar 2),(eVar 3)])])])) (sSeq (sFor (a08 (eVar 1)) (a09 6) (sSeq (sSet 7 (eBin dAdd (eC (.int 20)) (eBin dMul (eBin dAdd (eC (.int 3)) (eBin dMul (eC (.int 8)) (eVar 2))) (eBin dAdd (eVar 6) (eC (.int 1)))))) (sSeq (sSet 8 (eBin dAdd (eC (.int 1)) (eBin dMod (a0l a0y [(eVar 0),(eBin dAdd (eVar 7) (eC (.int 1)))]) (eBin dIx (eLst [(eC (.int 3)),(eC (.int 9))]) (eBin dMod (a0l a0y [(eVar 0),(eBin dAdd (eVar 7) (eC (.int 2)))]) (eC (.int 2))))))) (a1m 5 (eTup [(eBin dIx (eC (.str "pqrstu")) (eVar 6)),(eVar 8),(a0l a4G [(eVar 0),(eVar 7),(eVar 4),(eVar 1),(eVar 2),(eVar 3)])]))))) (sDem 5 (sRet (eTup [(eVar 4),(a0l (f1 a3F) [(eVar 5)])]))))))
def a3J:List D->Option R:=fnD 4 9 a8X
def b1f:MC:=
 (sRet (eBin dIx (eBin dIx (eBin dIx (eVar 0) (eC (.int 1))) (eVar 1)) (eC (.int 2))))
def a1L:List D->Option R:=fnD 2 2 b1f
def b43:MC:=
 (sRet (eBin dIx (eBin dIx (a0l a1L [(eVar 0),(eVar 1)]) (eVar 2)) (eC (.int 0))))
def a1O:List D->Option R:=fnD 3 3 b43
def b1l:MC:=
 (sRet (eBin dEq (eBin dIx (eVar 1) (eC (.int 1))) (a0r (f1 dLen) [(a0l a1L [(eVar 0),(eBin dIx (eVar 1) (eC (.int 0)))])])))
def a3p:List D->Option R:=fnD 2 2 b1l
def a72:MC:=
 (sSeq (sSet 2 (eIf (eBin dEq (eBin dIx (eVar 1) (eC (.int 2))) (eC (.int 0))) (eBin dIx (eVar 1) (eC (.int 1))) (eBin dAdd (eBin dIx (eVar 1) (eC (.int 1))) (eC (.int 1))))) (sSeq (sIf (eOr (eBin dEq (eVar 2) (a0r (f1 dLen) [(a0l a1L [(eVar 0),(eBin dIx (eVar 1) (eC (.int 0)))])])) (eBin dNe (eBin dIx (a0l a1O [(eVar 0),(eBin dIx (eVar 1) (eC (.int 0))),(eVar 2)]) (eC (.int 0))) (eC (.str "none")))) (sRet (eC .non)) a0F) (sRet (eVar 2))))
def a2t:List D->Option R:=fnD 2 3 a72
def b40:MC:=
 (sRet (a0r (f1 dLen) [(eBin dIx (eBin dIx (eVar 0) (eVar 1)) (eC (.int 1)))]))
def a4E:List D->Option R:=fnD 2 2 b40
def b3h:MC:=
 (sSeq (sSet 2 (a0l (f1 dSum) [(a1p [3] (a08 (eVar 1)) (a09 3) a2o (a0l a4E [(eVar 0),(eVar 3)]))])) (sRet (eBin a6x (eVar 2) (eBin dAdd (eVar 2) (a0l a4E [(eVar 0),(eVar 1)])))))
def a1D:List D->Option R:=fnD 2 4 b3h
def g_lam0:ME:=(eC (.bl true))
def f_lam0:List D->Option R:=fnL 1 g_lam0
def g_lam1:ME:=(a0l (f1 dAll) [(a1p [3,4] (iSeq (eVar 2)) (bTup [3,4]) a2o (eBin dEq (eBin dIx (eVar 0) (eVar 3)) (eBin dAdd (eBin dIx (eVar 0) (eVar 4)) (eVar 1))))])
def b5u:List D->Option R:=fnL 5 g_lam1
def g_lam2:ME:=(a0l (f1 dAll) [(a1p [3,4] (iSeq (eVar 2)) (bTup [3,4]) a2o (eBin dLe (eBin dIx (eVar 0) (eVar 3)) (eBin dAdd (eBin dIx (eVar 0) (eVar 4)) (eVar 1))))])
def b5t:List D->Option R:=fnL 5 g_lam2
def tbL:Nat->Option (List D->Option R)
 | 0=>some f_lam0
 | 1=>some b5u
 | 2=>some b5t
 | _=>none
def a99:MCl:=
 (cIf (eBin (dIn true) (eBin dIx (eVar 1) (eC (.int 0))) (eTup [(eC (.str "is")),(eC (.str "most"))])) (cLam 0 []) (cSeq (sSet 2 (a0l dLZ [(a0l a1D [(eVar 0),(eBin dIx (eVar 1) (eC (.int 1)))]),(a0l a1D [(eVar 0),(eBin dIx (eVar 1) (eC (.int 2)))])])) (cSeq (sSet 3 (eBin dIx (eVar 1) (eC (.int 3)))) (cIf (eBin dEq (eBin dIx (eVar 1) (eC (.int 0))) (eC (.str "is"))) (cLam 1 [3,2]) (cLam 2 [3,2])))))
def a2H:List D->Option R:=fnC 2 4 a99
def g_i_Deed:MG:=
 (a4O (a74 ["Deed","Promise","Comparing","Untouched","Still","Put","Copy","Tick","Handed","Grow","Anew"] "plan" (eVar 1)) a6X)
def a4j:a4U:=fnI 2 2 g_i_Deed
def b3r:MG:=
 (a4O (a5M a4j [(eBin dAdd (a1p [3] (iSeq (eVar 1)) (a09 3) a2o (eTup [(eTup [(eVar 3)]),(eTup [])])) (a1p [3] (iSeq (eVar 2)) (a09 3) a2o (eTup [(eTup []),(eTup [(eVar 3)])])))]) a6X)
def a5F:a4U:=fnI 3 4 b3r
def g_i_Anew:MG:=
 (a4O (a5M a5F [(eBin dAdd (eBin dAdd (eLst [(eVar 3)]) (eVar 2)) (eLst [(eVar 3)])),(eVar 1)]) (a4O (a74 ["Anew"] "check" (eBin dAdd (a0r (f1 dLen) [(eAny 2)]) (eC (.int 1)))) a6X))
def b5j:a4U:=fnI 4 4 g_i_Anew
def b1s:MG:=
 (a4O (a5M a4j [(eLst [(eTup [(a0l (f1 a3F) [(eVar 1)]),(eTup [])])])]) a6X)
def a4D:a4U:=fnI 2 2 b1s
def a88:MG:=
 (a4O (a5M a4D [(eUn a9c (eBin dAdd (eVar 1) (eVar 2)))]) a6X)
def a59:a4U:=fnI 3 3 a88
def g_i_Copy:MG:=
 (a4O (a5M a4j [(a1p [3] (a08 (a0r (f1 dLen) [(eAny 1)])) (a09 3) a2o (eTup [(eTup [(eBin dIx (eVar 2) (eVar 3))]),(eTup [(eBin dIx (eVar 1) (eVar 3))])]))]) a6X)
def b5i:a4U:=fnI 3 4 g_i_Copy
def g_i_Grow:MG:=
 (a4O (a5M a5F [(eVar 1),(eVar 1)]) (a4O (a74 ["Grow"] "size" (a0r (f1 dLen) [(eAny 1)])) (a4O (a74 ["Grow"] "number" (eVar 2)) a6X)))
def b5h:a4U:=fnI 3 3 g_i_Grow
def g_i_Put:MG:=
 (a4O (a5M a4j [(a1p [3] (iSeq (eVar 1)) (a09 3) a2o (eTup [(eTup []),(eTup [(eVar 3)])]))]) (a4O (a74 ["Put"] "numbers" (a0l (f1 a3F) [(eVar 2)])) a6X))
def i_Put:a4U:=fnI 3 4 g_i_Put
def b5o:MG:=
 (a4O (a5M a4j [(eRep (eLst [(eTup [(eTup []),(eTup [])])]) (eVar 1))]) a6X)
def b1r:a4U:=fnI 2 2 b5o
def g_i_Tick:MG:=
 (a4O (a5M a4j [(eLst [(eTup [(eTup [(eVar 1)]),(eTup [(eVar 1)])])])]) a6X)
def b5g:a4U:=fnI 2 2 g_i_Tick
def a87:MG:=
 (a4O (a5M a4D [(eLst [])]) a6X)
def a57:a4U:=fnI 1 1 a87
def b42:MC:=
 (sSeq (sSet 2 (eBin dIx (eVar 1) (eC (.int 0)))) (sSeq (sIf (eBin dEq (eVar 2) (eC (.str "still"))) (sRet (a45 "Still" b1r [(eBin dIx (eVar 1) (eC (.int 1)))])) a0F) (sSeq (sIf (eBin dEq (eVar 2) (eC (.str "none"))) (sRet (a45 "Untouched" a57 [])) a0F) (sSeq (sSet 3 (a0l a1D [(eVar 0),(eBin dIx (eVar 1) (eC (.int 1)))])) (sSeq (sIf (eBin dEq (eVar 2) (eC (.str "put"))) (sDem 3 (sRet (a45 "Put" i_Put [(eVar 3),(eBin dIx (eVar 1) (eC (.int 2)))]))) a0F) (sSeq (sIf (eBin dEq (eVar 2) (eC (.str "grow"))) (sDem 3 (sRet (a45 "Grow" b5h [(eVar 3),(eBin dIx (eVar 1) (eC (.int 2)))]))) a0F) (sSeq (sIf (eBin dEq (eVar 2) (eC (.str "tick"))) (sDem 3 (sRet (a45 "Tick" b5g [(eBin dIx (eVar 3) (eC (.int 0)))]))) a0F) (sSeq (sSet 4 (a0l a1D [(eVar 0),(eBin dIx (eVar 1) (eC (.int 2)))])) (sSeq (sIf (eBin dEq (eVar 2) (eC (.str "copy"))) (sDem 4 (sDem 3 (sRet (a45 "Copy" b5i [(eVar 3),(eVar 4)])))) a0F) (sSeq (sIf (eBin dEq (eVar 2) (eC (.str "anew"))) (sDem 4 (sDem 3 (sRet (a45 "Anew" b5j [(eVar 3),(eVar 4),(eBin dIx (a0l a1D [(eVar 0),(eBin dIx (eVar 1) (eC (.int 3)))]) (eC (.int 0)))])))) a0F) (sDem 4 (sDem 3 (sRet (a45 "Comparing" a59 [(eVar 3),(eVar 4)]))))))))))))))
def a6v:List D->Option R:=fnD 2 5 b42
def b0d:MC:=
 (sRet (a0l (f1 b3y) [(eBin dIx (eBin dIx (eUn (dFld ["Deed","Promise","Comparing","Untouched","Still","Put","Copy","Tick","Handed","Grow","Anew"] "plan") (eVar 0)) (eVar 1)) (eC (.int 0)))]))
def a3E:List D->Option R:=fnD 2 2 b0d
def a8Y:MC:=
 (sRet (a0l (f1 b3y) [(eBin dIx (eBin dIx (eUn (dFld ["Deed","Promise","Comparing","Untouched","Still","Put","Copy","Tick","Handed","Grow","Anew"] "plan") (eVar 0)) (eVar 1)) (eC (.int 1)))]))
def a2U:List D->Option R:=fnD 2 2 a8Y
def a62:String->Option (List D->Option R):=(tbG ["Deed","Promise","Comparing","Untouched","Still","Put","Copy","Tick","Handed","Grow","Anew"] a3E tbNil)
def a6e:String->Option (List D->Option R):=(tbG ["Deed","Promise","Comparing","Untouched","Still","Put","Copy","Tick","Handed","Grow","Anew"] a2U tbNil)
def b4Z:MC:=
 (sSeq (sSet 3 (a0l a6v [(eBin dIx (eVar 0) (eC (.int 0))),(a0l a1O [(eVar 0),(eBin dIx (eVar 1) (eC (.int 0))),(eBin dIx (eVar 1) (eC (.int 1)))])])) (sDem 3 (sSeq (sSet 4 (eBin dAdd (b3v "reads" a62 (eVar 3) [(eBin dIx (eVar 1) (eC (.int 2)))]) (b3v "writes" a6e (eVar 3) [(eBin dIx (eVar 1) (eC (.int 2)))]))) (sDem 4 (sRet (a0l (f1 dAny) [(a1p [5] (iSeq (a0l a1D [(eBin dIx (eVar 0) (eC (.int 0))),(eVar 2)])) (a09 5) a2o (eBin (dIn false) (eVar 5) (eVar 4)))]))))))
def a5m:List D->Option R:=fnD 3 6 b4Z
def b1m:MC:=
 (sSeq (sSet 3 (eBin dIx (eVar 1) (eC (.int (-1))))) (sSeq (sIf (a0l a3p [(eVar 0),(eVar 3)]) (sRet (eTup [])) a0F) (sSeq (sSet 4 (eLst [])) (sSeq (sFor (iSeq (a4Z (eVar 1) none (some (eC (.int (-1)))))) (a09 5) (sSeq (sSet 6 (a0l a2t [(eVar 0),(eVar 5)])) (sIf (eAnd (eUn b5B (eVar 6)) (a0l a5m [(eVar 0),(eVar 3),(eBin dIx (a0l a1O [(eVar 0),(eBin dIx (eVar 5) (eC (.int 0))),(eVar 6)]) (eC (.int 1)))])) (a1m 4 (eTup [(eBin dIx (eVar 5) (eC (.int 0))),(eVar 6)])) a0F))) (sSeq (sIf (eNot (a8p tbL (a0l a2H [(eBin dIx (eVar 0) (eC (.int 0))),(a0l a1O [(eVar 0),(eBin dIx (eVar 3) (eC (.int 0))),(eBin dIx (eVar 3) (eC (.int 1)))])]) (eVar 2))) (a1m 4 (eTup [(eBin dIx (eVar 3) (eC (.int 0))),(eBin dIx (eVar 3) (eC (.int 1)))])) a0F) (sDem 4 (sRet (a0l (f1 a3F) [(eVar 4)]))))))))
def a3q:List D->Option R:=fnD 3 7 b1m
def m_breaks:MC:=
 (sRet (a0l a3q [(eVar 0),(eBin dIx (eVar 1) (eC (.int 0))),(eBin dIx (eVar 1) (eC (.int 1)))]))
def a5H:List D->Option R:=fnD 2 2 m_breaks
def m_law:MC:=
 (sSeq (sSet 1 (a0l a3J [(eVar 0),(eBin dMod (a0l a0y [(eVar 0),(eC (.int 1))]) (eC (.int 7))),(eC (.int 4)),(eC (.int 9))])) (sSeq (sSet 2 (a0l a4R [(eVar 1)])) (sSeq (sFor (iSeq (eBin dAdd (eLst [(eC (.int 0)),(eC (.int 0)),(eC (.int 0))]) (a4Z (eVar 0) none (some (eC (.int 80)))))) (a09 3) (sSeq (sIf (eNot (a0l a39 [(a0l a5H [(eVar 1),(eVar 2)]),(a0l a1X [(eVar 1),(eVar 2)])])) (sRet (eC (.bl false))) a0F) (sSet 2 (a0l a4H [(eVar 1),(eVar 2),(eBin dMod (eVar 3) (eC (.int 1000003)))])))) (sRet (eC (.bl true))))))
def f_law:List D->Option R:=fnD 1 4 m_law
def a9m:MC:=(sDem 1 (sSet 1 (eBin dAdd (eVar 1) (a0l (f1 b3y) [(eBin dIx (eVar 2) (eC (.int 1)))]))))
def a5q:MC:=(sDem 4 (sSeq (sSet 6 (eBin dAdd (eBin dIx (eVar 2) (eBin dIx (eVar 4) (eVar 5))) (eBin dIx (eVar 1) (eC (.int 3))))) (sDem 3 (sIf (eOr (eBin dGt (eBin dIx (eVar 2) (eBin dIx (eVar 3) (eVar 5))) (eVar 6)) (eAnd (eBin dEq (eBin dIx (eVar 1) (eC (.int 0))) (eC (.str "is"))) (eBin dLt (eBin dIx (eVar 2) (eBin dIx (eVar 3) (eVar 5))) (eVar 6)))) (sRet (eC (.bl false))) a0F))))
def a3v:MC:=(sDem 3 (sIf (eOr (eBin dGt (eBin dIx (eVar 2) (eBin dIx (eVar 3) (eVar 5))) (eVar 6)) (eAnd (eBin dEq (eBin dIx (eVar 1) (eC (.int 0))) (eC (.str "is"))) (eBin dLt (eBin dIx (eVar 2) (eBin dIx (eVar 3) (eVar 5))) (eVar 6)))) (sRet (eC (.bl false))) a0F))
def a7c:MC:=(sSeq (sIf (eAnd (eBin dEq (eBin dIx (eVar 1) (eC (.int 0))) (eC (.str "anew"))) (eOr (eBin dEq (eVar 2) (eC (.int 0))) (eBin dEq (eVar 2) (eBin dAdd (eVar 3) (eC (.int 1)))))) (sRet (eLst [(eBin dIx (eVar 1) (eC (.int 3)))])) a0F) (sSeq (sIf (eAnd (eBin dEq (eBin dIx (eVar 1) (eC (.int 0))) (eC (.str "anew"))) (eBin dLe (eVar 2) (eVar 3))) (sRet (eLst [(eBin dIx (eVar 1) (eC (.int 2)))])) a0F) (sRet (eLst [(eBin dIx (eVar 1) (eC (.int 1)))]))))
def a7N:MC:=(sSeq (sIf (eNot (a0l a3m [(eBin dIx (eVar 0) (eC (.int 0))),(eVar 4),(eBin dIx (eVar 1) (eC (.int 1)))])) (a1m 6 (eTup [(eBin dIx (eVar 2) (eC (.int 0))),(eBin dIx (eVar 2) (eC (.int 1)))])) a0F) (sDem 6 (sRet (a0l (f1 a3F) [(eVar 6)]))))
def a4q:MC:=(sSeq (sSet 10 (eOr (eBin dEq (eVar 9) (eBin dIx (eVar 7) (eC (.int 1)))) (eBin dGt (eBin dIx (eVar 7) (eC (.int 2))) (eC (.int 0))))) (sDem 5 (sIf (eAnd (eVar 10) (eAnd (eBin dEq (eBin dIx (eBin dIx (eBin dIx (eVar 8) (eVar 9)) (eC (.int 0))) (eC (.int 0))) (eC (.str "none"))) (eBin (dIn false) (eBin dIx (eBin dIx (eBin dIx (eVar 8) (eVar 9)) (eC (.int 0))) (eC (.int 1))) (eVar 5)))) (a1m 6 (eTup [(eBin dIx (eVar 7) (eC (.int 0))),(eVar 9)])) a0F)))
def a79:MC:=(sSeq (sSet 8 (eBin dIx (eBin dIx (eBin dIx (eVar 0) (eC (.int 1))) (eBin dIx (eVar 7) (eC (.int 0)))) (eC (.int 2)))) (sFor (a6a (eBin dIx (eVar 7) (eC (.int 1))) (a0l (f2 dMin2) [(eBin dAdd (eBin dIx (eVar 7) (eC (.int 1))) (eC (.int 2))),(a0r (f1 dLen) [(eAny 8)])])) (a09 9) (sSeq (sSet 10 (eOr (eBin dEq (eVar 9) (eBin dIx (eVar 7) (eC (.int 1)))) (eBin dGt (eBin dIx (eVar 7) (eC (.int 2))) (eC (.int 0))))) (sDem 5 (sIf (eAnd (eVar 10) (eAnd (eBin dEq (eBin dIx (eBin dIx (eBin dIx (eVar 8) (eVar 9)) (eC (.int 0))) (eC (.int 0))) (eC (.str "none"))) (eBin (dIn false) (eBin dIx (eBin dIx (eBin dIx (eVar 8) (eVar 9)) (eC (.int 0))) (eC (.int 1))) (eVar 5)))) (a1m 6 (eTup [(eBin dIx (eVar 7) (eC (.int 0))),(eVar 9)])) a0F)))))
def a6f:MC:=(sSeq (sSet 3 (eBin dMod (eBin dAdd (eBin dAdd (eBin dMul (eBin dMod (eVar 2) (eC (.int 1000003))) (eC (.int 48271))) (eBin dMul (eBin dMul (eVar 1) (eVar 1)) (eC (.int 7919)))) (eC (.int 1))) (eC (.int 65521)))) (sRet (eBin dMod (eBin dMul (eVar 3) (eVar 3)) (eC (.int 65519)))))
def a7P:MC:=(sSeq (sIf (eAnd (eBin dEq (eBin dIx (eVar 6) (eC (.int 0))) (eC (.str "same"))) (eBin dNe (eBin dIx (eBin dIx (eVar 1) (eC (.int 1))) (eBin dIx (eVar 6) (eC (.int 1)))) (eBin dIx (eBin dIx (eVar 2) (eC (.int 3))) (eC (.int 0))))) (sRet (eTup [(eBin dAdd (eVar 3) (eTup [(eTup [(eBin dIx (eVar 2) (eC (.int 0))),(eBin dIx (eVar 2) (eC (.int 1))),(eC (.int 0)),(eTup [])])])),(eBin dIx (eVar 7) (eC (.int 0)))])) a0F) (sSeq (sIf (eBin dLt (eBin dAdd (eBin dIx (eVar 2) (eC (.int 2))) (eC (.int 1))) (a0r (f1 dLen) [(eAny 5)])) (sRet (eTup [(eBin dAdd (eVar 3) (eTup [(eTup [(eBin dIx (eVar 2) (eC (.int 0))),(eBin dIx (eVar 2) (eC (.int 1))),(eBin dAdd (eBin dIx (eVar 2) (eC (.int 2))) (eC (.int 1))),(eBin dIx (eVar 7) (eC (.int 1)))])])),(eBin dIx (eVar 7) (eC (.int 0)))])) a0F) (sSeq (sIf (eAnd (eBin dGt (eBin dIx (eVar 2) (eC (.int 0))) (eC (.int 0))) (eBin dEq (eBin dAdd (eBin dIx (eVar 2) (eC (.int 1))) (eC (.int 1))) (a0r (f1 dLen) [(eAny 4)]))) (sRet (eTup [(eVar 3),(eBin dIx (eVar 7) (eC (.int 0)))])) a0F) (sRet (eTup [(eBin dAdd (eVar 3) (eTup [(eTup [(eBin dIx (eVar 2) (eC (.int 0))),(eBin dAdd (eBin dIx (eVar 2) (eC (.int 1))) (eC (.int 1))),(eC (.int 0)),(eTup [])])])),(eBin dIx (eVar 7) (eC (.int 0)))])))))
def a7O:MC:=(sSeq (sIf (eBin dLt (eBin dAdd (eBin dIx (eVar 2) (eC (.int 2))) (eC (.int 1))) (a0r (f1 dLen) [(eAny 5)])) (sRet (eTup [(eBin dAdd (eVar 3) (eTup [(eTup [(eBin dIx (eVar 2) (eC (.int 0))),(eBin dIx (eVar 2) (eC (.int 1))),(eBin dAdd (eBin dIx (eVar 2) (eC (.int 2))) (eC (.int 1))),(eBin dIx (eVar 7) (eC (.int 1)))])])),(eBin dIx (eVar 7) (eC (.int 0)))])) a0F) (sSeq (sIf (eAnd (eBin dGt (eBin dIx (eVar 2) (eC (.int 0))) (eC (.int 0))) (eBin dEq (eBin dAdd (eBin dIx (eVar 2) (eC (.int 1))) (eC (.int 1))) (a0r (f1 dLen) [(eAny 4)]))) (sRet (eTup [(eVar 3),(eBin dIx (eVar 7) (eC (.int 0)))])) a0F) (sRet (eTup [(eBin dAdd (eVar 3) (eTup [(eTup [(eBin dIx (eVar 2) (eC (.int 0))),(eBin dAdd (eBin dIx (eVar 2) (eC (.int 1))) (eC (.int 1))),(eC (.int 0)),(eTup [])])])),(eBin dIx (eVar 7) (eC (.int 0)))]))))
def a78:MC:=(sSet 2 (eBin dBor (eVar 2) (a0l a4F [(eVar 0),(eVar 3)])))
def a9r:MC:=(sSeq (sSet 4 (a0l a2I [(eVar 0),(eVar 1)])) (sSeq (sIf (eUn b5B (eVar 4)) (sRet (eVar 4)) a0F) (sSeq (sIf (eBin dGt (a0r (f1 dLen) [(eAny 3)]) (eC (.int 0))) (sDem 3 (sRet (a0l a3o [(eVar 1),(eBin dIx (eVar 3) (eBin dMod (eBin a4a (eVar 2) (eC (.int 3))) (a0r (f1 dLen) [(eAny 3)])))]))) a0F) (sRet (eVar 1)))))
def a6C:MC:=(sSeq (sSet 5 (eBin dAdd (eBin dAdd (eC (.int 4)) (eBin dMul (eC (.int 5)) (eVar 4))) (eBin dMul (eC (.int 400)) (eBin a4a (eVar 4) (eC (.int 3)))))) (sSeq (sSet 6 (eLst [(a0l a0J [(eVar 0),(eVar 5)])])) (sSeq (sSet 7 (eBin dMod (a0l a0y [(eVar 0),(eBin dAdd (eVar 5) (eC (.int 2)))]) (eC (.int 5)))) (sSeq (sIf (eOr (eAnd (eBin dEq (eVar 1) (eC (.int 2))) (eBin dGt (eVar 7) (eBin dIx (eLst [(eC (.int 0)),(eC (.int 0)),(eC (.int 2))]) (eBin dMod (eVar 4) (eC (.int 3)))))) (eAnd (eBin dEq (eVar 1) (eC (.int 1))) (eBin dEq (eVar 7) (eC (.int 0))))) (a1m 6 (a0l a0J [(eVar 0),(eBin dAdd (eVar 5) (eC (.int 3)))])) a0F) (sDem 6 (a1m 3 (eTup [(eBin dIx (eC (.str "abcdefgh")) (eVar 4)),(a0l (f1 a3F) [(eVar 6)])])))))))
def a7J:MC:=(sDem 6 (a1m 3 (eTup [(eBin dIx (eC (.str "abcdefgh")) (eVar 4)),(a0l (f1 a3F) [(eVar 6)])])))
def a6M:MC:=(sSeq (sIf (eOr (eBin dEq (eVar 4) (eC (.int 5))) (eBin dEq (eVar 4) (eC (.int 6)))) (sSeq (sSet 12 (eBin dSub (eBin dIx (eBin dIx (eBin dIx (eVar 2) (eVar 7)) (eC (.int 1))) (eC (.int 0))) (eBin dIx (eBin dIx (eBin dIx (eVar 2) (eVar 10)) (eC (.int 1))) (eC (.int 0))))) (sSeq (sIf (eAnd (eBin dGt (eBin dMod (eBin a4a (eVar 5) (eC (.int 7))) (eC (.int 3))) (eC (.int 0))) (eBin dLe (a0l (f1 dAbs) [(eVar 12)]) (eBin dPow (eC (.int 10)) (eC (.int 9))))) (sSet 6 (eVar 12)) a0F) (sRet (eTup [(eBin dIx (eLst [(eC (.str "is")),(eC (.str "most"))]) (eBin dSub (eVar 4) (eC (.int 5)))),(eVar 7),(eVar 10),(eVar 6)])))) a0F) (sSeq (sIf (eAnd (eBin dEq (eVar 4) (eC (.int 1))) (eBin dNe (eVar 10) (eVar 7))) (sRet (eTup [(eC (.str "copy")),(eVar 7),(eVar 10)])) a0F) (sSeq (sIf (eOr (eBin dEq (eVar 4) (eC (.int 2))) (eAnd (eBin dEq (eVar 4) (eC (.int 3))) (eBin dEq (eVar 8) (eC (.int 2))))) (sRet (eTup [(eC (.str "grow")),(eVar 7),(eVar 6)])) a0F) (sSeq (sIf (eBin dEq (eVar 4) (eC (.int 3))) (sRet (eTup [(eC (.str "tick")),(eVar 7)])) a0F) (sSeq (sIf (eOr (eBin dEq (eVar 4) (eC (.int 7))) (eBin dEq (eVar 4) (eC (.int 10)))) (sRet (eTup [(eC (.str "none")),(eVar 7)])) a0F) (sSeq (sSet 11 (a1p [14] (a08 (a0r (f1 dLen) [(eAny 2)])) (a09 14) (eAnd (eBin dNe (eVar 14) (eVar 7)) (eAnd (eBin dNe (eVar 14) (eVar 10)) (eBin dEq (a0r (f1 dLen) [(eBin dIx (eBin dIx (eVar 2) (eVar 14)) (eC (.int 1)))]) (eC (.int 1))))) (eVar 14))) (sSeq (sIf (eAnd (eBin dEq (eVar 4) (eC (.int 8))) (eAnd (eBin dNe (eVar 10) (eVar 7)) (eBin dGt (a0r (f1 dLen) [(eAny 11)]) (eC (.int 0))))) (sDem 11 (sRet (eTup [(eC (.str "anew")),(eVar 7),(eVar 10),(eBin dIx (eVar 11) (eBin dMod (eBin a4a (eVar 5) (eC (.int 5))) (a0r (f1 dLen) [(eAny 11)])))]))) a0F) (sSeq (sIf (eBin dEq (eVar 8) (eC (.int 1))) (sRet (eTup [(eC (.str "put")),(eVar 7),(eTup [(eVar 6)])])) a0F) (sRet (eTup [(eC (.str "put")),(eVar 7),(eTup [(eVar 6),(a0l a0J [(eVar 0),(eBin dAdd (eVar 1) (eC (.int 5)))])])]))))))))))
def a8x:MC:=(sSeq (sSet 11 (a1p [14] (a08 (a0r (f1 dLen) [(eAny 2)])) (a09 14) (eAnd (eBin dNe (eVar 14) (eVar 7)) (eAnd (eBin dNe (eVar 14) (eVar 10)) (eBin dEq (a0r (f1 dLen) [(eBin dIx (eBin dIx (eVar 2) (eVar 14)) (eC (.int 1)))]) (eC (.int 1))))) (eVar 14))) (sSeq (sIf (eAnd (eBin dEq (eVar 4) (eC (.int 8))) (eAnd (eBin dNe (eVar 10) (eVar 7)) (eBin dGt (a0r (f1 dLen) [(eAny 11)]) (eC (.int 0))))) (sDem 11 (sRet (eTup [(eC (.str "anew")),(eVar 7),(eVar 10),(eBin dIx (eVar 11) (eBin dMod (eBin a4a (eVar 5) (eC (.int 5))) (a0r (f1 dLen) [(eAny 11)])))]))) a0F) (sSeq (sIf (eBin dEq (eVar 8) (eC (.int 1))) (sRet (eTup [(eC (.str "put")),(eVar 7),(eTup [(eVar 6)])])) a0F) (sRet (eTup [(eC (.str "put")),(eVar 7),(eTup [(eVar 6),(a0l a0J [(eVar 0),(eBin dAdd (eVar 1) (eC (.int 5)))])])])))))
def a8w:MC:=(sSeq (sIf (eBin dEq (eVar 8) (eC (.int 1))) (sRet (eTup [(eC (.str "put")),(eVar 7),(eTup [(eVar 6)])])) a0F) (sRet (eTup [(eC (.str "put")),(eVar 7),(eTup [(eVar 6),(a0l a0J [(eVar 0),(eBin dAdd (eVar 1) (eC (.int 5)))])])])))
def b1B:MC:=(sSeq (sSet 8 (eBin dAdd (eBin dAdd (eVar 1) (eC (.int 3))) (eBin dMul (eC (.int 8)) (eVar 7)))) (sSeq (sSet 9 (eC (.int 0))) (sSeq (sSet 10 (a0l a0y [(eVar 0),(eBin dAdd (eVar 8) (eC (.int 7)))])) (sSeq (sIf (eBin dEq (eBin dMod (eVar 10) (eC (.int 2))) (eC (.int 1))) (sSet 9 (eBin dMul (eC (.int 2)) (eBin dMod (eBin a4a (eVar 10) (eC (.int 2))) (eBin dShl (eC (.int 1)) (eVar 3))))) a0F) (a1m 6 (eTup [(a0l a3n [(eVar 0),(eVar 8),(eVar 2),(eVar 5)]),(eVar 9)]))))))
def a9l:MC:=(a1m 6 (eTup [(a0l a3n [(eVar 0),(eVar 8),(eVar 2),(eVar 5)]),(eVar 9)]))
def a7I:MC:=(sSeq (sSet 7 (eBin dAdd (eC (.int 20)) (eBin dMul (eBin dAdd (eC (.int 3)) (eBin dMul (eC (.int 8)) (eVar 2))) (eBin dAdd (eVar 6) (eC (.int 1)))))) (sSeq (sSet 8 (eBin dAdd (eC (.int 1)) (eBin dMod (a0l a0y [(eVar 0),(eBin dAdd (eVar 7) (eC (.int 1)))]) (eBin dIx (eLst [(eC (.int 3)),(eC (.int 9))]) (eBin dMod (a0l a0y [(eVar 0),(eBin dAdd (eVar 7) (eC (.int 2)))]) (eC (.int 2))))))) (a1m 5 (eTup [(eBin dIx (eC (.str "pqrstu")) (eVar 6)),(eVar 8),(a0l a4G [(eVar 0),(eVar 7),(eVar 4),(eVar 1),(eVar 2),(eVar 3)])]))))
def a8y:MC:=(sSeq (sIf (eNot (a8p tbL (a0l a2H [(eBin dIx (eVar 0) (eC (.int 0))),(a0l a1O [(eVar 0),(eBin dIx (eVar 3) (eC (.int 0))),(eBin dIx (eVar 3) (eC (.int 1)))])]) (eVar 2))) (a1m 4 (eTup [(eBin dIx (eVar 3) (eC (.int 0))),(eBin dIx (eVar 3) (eC (.int 1)))])) a0F) (sDem 4 (sRet (a0l (f1 a3F) [(eVar 4)]))))
def a9n:MC:=(sSeq (sSet 6 (a0l a2t [(eVar 0),(eVar 5)])) (sIf (eAnd (eUn b5B (eVar 6)) (a0l a5m [(eVar 0),(eVar 3),(eBin dIx (a0l a1O [(eVar 0),(eBin dIx (eVar 5) (eC (.int 0))),(eVar 6)]) (eC (.int 1)))])) (a1m 4 (eTup [(eBin dIx (eVar 5) (eC (.int 0))),(eVar 6)])) a0F))
def b5V:MC:=(sSeq (sIf (eNot (a0l a39 [(a0l a5H [(eVar 1),(eVar 2)]),(a0l a1X [(eVar 1),(eVar 2)])])) (sRet (eC (.bl false))) a0F) (sSet 2 (a0l a4H [(eVar 1),(eVar 2),(eBin dMod (eVar 3) (eC (.int 1000003)))])))
abbrev Bx:=Str×List Int
def bD (b:Bx):D:=.tup [.str b.1,.tup (b.2.map D.int)]
def a0L (bs:List Bx):D:=.tup (bs.map bD)
def b0K (i:Int):Prop:=-1000000000<=i/\i<=1000000000
def BxOk (b:Bx):Prop:=1<=b.2.length/\b.2.length<=2/\∀i∈b.2,b0K i
def a1A (bs:List Bx):Prop:=bs.length<=8/\∀b∈bs,BxOk b
def szB (bs:List Bx) (x:Nat):Nat:=(bs.getD x (Str.empty,[])).2.length
inductive Deed where
 | put (x:Nat) (ns:List Int)|copy (x y:Nat)|grow (x:Nat) (n:Int)|tick (x:Nat)|still (n:Nat)
 | iz (x y:Nat) (n:Int)|most (x y:Nat) (n:Int)|non (x:Nat)|anew (x y t:Nat)
def natD (n:Nat):D:=.int n
def Deed.d:Deed->D
 | .put x ns=>.tup [.str (Str.ofString "put"),.int x,.tup (ns.map D.int)]
 | .copy x y=>.tup [.str (Str.ofString "copy"),.int x,.int y]
 | .grow x n=>.tup [.str (Str.ofString "grow"),.int x,.int n]
 | .tick x=>.tup [.str (Str.ofString "tick"),.int x]
 | .still n=>.tup [.str (Str.ofString "still"),.int n]
 | .iz x y n=>.tup [.str (Str.ofString "is"),.int x,.int y,.int n]
 | .most x y n=>.tup [.str (Str.ofString "most"),.int x,.int y,.int n]
 | .non x=>.tup [.str (Str.ofString "none"),.int x]
 | .anew x y t=>.tup [.str (Str.ofString "anew"),.int x,.int y,.int t]
def Deed.Ok (bs:List Bx):Deed->Prop
 | .put x ns=>x<bs.length/\ns.length=szB bs x/\∀i∈ns,b0K i
 | .copy x y=>x<bs.length/\y<bs.length/\x≠y/\szB bs y=szB bs x
 | .grow x n=>x<bs.length/\b0K n
 | .tick x=>x<bs.length/\szB bs x=1
 | .still n=>1<=n/\n<=9
 | .iz x y n=>x<bs.length/\y<bs.length/\szB bs y=szB bs x/\b0K n
 | .most x y n=>x<bs.length/\y<bs.length/\szB bs y=szB bs x/\b0K n
 | .non x=>x<bs.length
 | .anew x y t=>x<bs.length/\y<bs.length/\t<bs.length/\x≠y/\x≠t/\y≠t/\szB bs y=szB bs x/\szB bs t=1
abbrev Pl:=Deed×Nat
structure Rw where
 nm:Str
 rk:Nat
 pl:List Pl
def plD (p:Pl):D:=.tup [p.1.d,.int p.2]
def Rw.d (r:Rw):D:=.tup [.str r.nm,.int r.rk,.tup (r.pl.map plD)]
def a1k (bs:List Bx) (rs:List Rw):D:=.tup [a0L bs,.tup (rs.map Rw.d)]
def PlOk (bs:List Bx) (bells:Nat) (p:Pl):Prop:=p.1.Ok bs/\p.2<2 ^ (bells+1)/\p.2 % 2=0
def RwOk (bs:List Bx) (bells most:Nat) (r:Rw):Prop:=1<=r.pl.length/\r.pl.length<=most/\(∀p∈r.pl,PlOk bs bells p)
structure ProgOk (bs:List Bx) (rs:List Rw) (bells most:Nat):Prop where
 box:a1A bs
 len:rs.length=bells+1
 row:∀r∈rs,RwOk bs bells most r
 main:(rs.getD 0 ⟨Str.empty,1,[]⟩).rk=0
 rank:∀k r,rs[k]?=some r->k≠0->1<=r.rk/\r.rk<=9
theorem b2j (ds:List D):dLen (.tup ds)=okI (ds.length:Int):=rfl
theorem a3t (ds:List D):dLen (.lst ds)=okI (ds.length:Int):=rfl
theorem a68 {bs:List Bx} {x:Nat} (h:x<bs.length):dIx (a0L bs) (.int x)=okD (bD bs[x]):=ix_tup (by rw [getElem?_map,getElem?_eq_getElem h];rfl)
theorem a7s (bs:List Bx):dLen (a0L bs)=okI (bs.length:Int):=by show okI ((bs.map bD).length:Int)=_;rw [length_map]
theorem a9s {bs:List Bx} {x:Nat} (h:x<bs.length):szB bs x=bs[x].2.length:=by
 unfold szB
 rw [getD_eq_getElem?_getD,getElem?_eq_getElem h]
 rfl
theorem a8Z (ns:List Int):dLen (.tup (ns.map D.int))=okI (ns.length:Int):=by show okI ((ns.map D.int).length:Int)=_;rw [length_map]
theorem b0i (b:Bx):dIx (bD b) (.int 1)=okD (.tup (b.2.map D.int)):=a0Z
def mixC (ns:List Int) (k:Int):Int:=if ns=[] then 0 else (ns.getD (k % ns.length).toNat 0)
def mixW (ns:List Int) (k:Int):Int:=(mixC ns k % 1000003 * 48271+k * k * 7919+1) % 65521
def mixV (ns:List Int) (k:Int):Int:=mixW ns k * mixW ns k % 65519
theorem a6P {ns:List Int} {k:Int}:0<=mixV ns k/\mixV ns k<65519:=by
 unfold mixV
 exact ⟨emod_nonneg _ (by omega),emod_lt_of_pos _ (by omega)⟩
theorem mixW_lt {ns:List Int} {k:Int}:0<=mixW ns k/\mixW ns k<65521:=by
 unfold mixW
 exact ⟨emod_nonneg _ (by omega),emod_lt_of_pos _ (by omega)⟩
theorem b13 {ns:List Int} {k:Int} (h0:0<=k) (h1:k<=100000):a6f [some (.sh (.lst (ns.map D.int))),some (.sh (.int k)),some (.sh (.int (mixC ns k))),none]=some (.ret (.sh (.int (mixV ns k)))):=by
 have hw:=mixW_lt (ns:=ns) (k:=k)
 have hc:0<=mixC ns k % 1000003/\mixC ns k % 1000003<1000003:=⟨emod_nonneg _ (by omega),emod_lt_of_pos _ (by omega)⟩
 have e:(mixC ns k % 1000003 * 48271+k * k * 7919+1) % 65521=mixW ns k:=rfl
 have e2:mixW ns k * mixW ns k % 65519=mixV ns k:=rfl
 unfold a6f
 simp (disch:=omega) only [sSeq,sSet,a2V,eVar,getElem?_cons_succ,getElem?_cons_zero,okD,eC,bindV_ok,S.val_sh,a0P,okI,mulL,mulR,add_int,e,set_cons_succ,set_cons_zero,bindO_ok,sRet,e2]
theorem ix_ns {ns:List Int} {k:Int} (h:ns≠[]):dIx (.lst (ns.map D.int)) (.int (k % ns.length))=okI (mixC ns k):=by
 have hl:0<ns.length:=List.length_pos_iff.mpr h
 have hp:0<=k % (ns.length:Int):=emod_nonneg _ (by omega)
 have hq:k % (ns.length:Int)<(ns.length:Int):=emod_lt_of_pos _ (by omega)
 have e:(ns.map D.int)[(k % (ns.length:Int)).toNat]?=some (.int (ns.getD (k % (ns.length:Int)).toNat 0)):=by
  have hi:(k % (ns.length:Int)).toNat<ns.length:=by omega
  rw [getElem?_map,getD_eq_getElem?_getD,getElem?_eq_getElem hi]
  rfl
 have z:=a3H e
 rw [Int.toNat_of_nonneg hp] at z
 rw [z]
 unfold mixC
 rw [if_neg h]
theorem a1J {ns:List Int} {k:Int} (h0:0<=k) (h1:k<=100000):a0y [.lst (ns.map D.int),.int k]=okI (mixV ns k):=by
 have hlen:dLen (.lst (ns.map D.int))=okI (ns.length:Int):=by show okI ((ns.map D.int).length:Int)=_;rw [length_map]
 by_cases h:ns=[]
 ·refine a0x rfl (a0b (a0p rfl) (a0b (if_f (a0c (lenB rfl hlen) rfl (gt_f (by subst h;simp))) rfl) ?_))
  have:mixC ns k=0:=by unfold mixC;rw [if_pos h]
  have z:=b13 (ns:=ns) h0 h1
  rw [this] at z
  exact z
 ·have hl:0<ns.length:=List.length_pos_iff.mpr h
  exact a0x rfl (a0b (a0p rfl) (a0b (if_t (a0c (lenB rfl hlen) rfl (gt_t (by omega))) (a0p (a0c rfl (a0c rfl (lenB rfl hlen) (a0P (by omega))) (ix_ns h)))) (b13 h0 h1)))
theorem mix2 {ns:List Int} {k:Int}:mixV ns k % 2=0\/mixV ns k % 2=1:=by omega
theorem a9Z {ns:List Int} {k:Int} (h0:0<=k) (h1:k<=90000):∃i,a0J [.lst (ns.map D.int),.int k]=okI i/\-1000000000<=i/\i<=1000000000:=by
 have hp:dPow (.int 10) (.int 9)=okI 1000000000:=rfl
 have b1:=a6P (ns:=ns) (k:=k)
 have b2:=a6P (ns:=ns) (k:=k+1)
 by_cases c1:mixV ns k % 3=0
 ·refine ⟨mixV ns (k+1) % 5 - 2,?_,by omega,by omega⟩
  simp (disch:=omega) only [a0J,fnD,length_cons,length_nil,reduceAdd,outR,a3C,sSeq,sSet,a0l,a1e,eVar,a1N,map_cons,map_nil,reduceSub,replicate_succ,List.replicate_zero,cons_append,nil_append,getElem?_cons_zero,okD,getElem?_cons_succ,bindV_ok,S.val_sh,a1J,okI,set_cons_succ,set_cons_zero,bindO_ok,a2V,eC,add_int,sIf,a0P,c1,eq_d,okB,decide_true,asBO,sRet,sub_int,a0F,ite_true]
 ·by_cases c2:mixV ns k % 17=1
  ·rcases mix2 (ns:=ns) (k:=k+1) with c3|c3
   ·refine ⟨1000000000,?_,by omega,by omega⟩
    simp (disch:=omega) only [a0J,fnD,length_cons,length_nil,reduceAdd,outR,a3C,sSeq,sSet,a0l,a1e,eVar,a1N,map_cons,map_nil,reduceSub,replicate_succ,List.replicate_zero,cons_append,nil_append,getElem?_cons_zero,okD,getElem?_cons_succ,bindV_ok,S.val_sh,a1J,okI,set_cons_succ,set_cons_zero,bindO_ok,a2V,eC,add_int,sIf,a0P,eq_d,okB,c1,decide_false,asBO,sRet,sub_int,a0F,false_eq_true,ite_false,c2,decide_true,eLst,a56,okL,hp,eUn,neg_d,Int.reduceNeg,reduceLeDiff,ite_true,c3,S.val_own,O.val_lst,b3j]
   ·refine ⟨-1000000000,?_,by omega,by omega⟩
    simp (disch:=omega) only [a0J,fnD,length_cons,length_nil,reduceAdd,outR,a3C,sSeq,sSet,a0l,a1e,eVar,a1N,map_cons,map_nil,reduceSub,replicate_succ,List.replicate_zero,cons_append,nil_append,getElem?_cons_zero,okD,getElem?_cons_succ,bindV_ok,S.val_sh,a1J,okI,set_cons_succ,set_cons_zero,bindO_ok,a2V,eC,add_int,sIf,a0P,eq_d,okB,c1,decide_false,asBO,sRet,sub_int,a0F,false_eq_true,ite_false,c2,decide_true,eLst,a56,okL,hp,eUn,neg_d,Int.reduceNeg,reduceLeDiff,ite_true,c3,S.val_own,O.val_lst,b3i]
  ·refine ⟨(mixV ns k * 65519+mixV ns (k+1)) % 2000000001 - 1000000000,?_,by omega,by omega⟩
   simp (disch:=omega) only [a0J,fnD,length_cons,length_nil,reduceAdd,outR,a3C,sSeq,sSet,a0l,a1e,eVar,a1N,map_cons,map_nil,reduceSub,replicate_succ,List.replicate_zero,cons_append,nil_append,getElem?_cons_zero,okD,getElem?_cons_succ,bindV_ok,S.val_sh,a1J,okI,set_cons_succ,set_cons_zero,bindO_ok,a2V,eC,add_int,sIf,a0P,eq_d,okB,c1,decide_false,asBO,sRet,sub_int,a0F,false_eq_true,ite_false,c2,eLst,a56,okL,eUn,reduceLeDiff,ite_true,mulL]
def numV (ns:List Int) (k:Int):Int:=match a0J [.lst (ns.map D.int),.int k] with
 | some (.ok (.sh (.int i)))=>i
 | _=>0
theorem a6o {ns:List Int} {k:Int} (h0:0<=k) (h1:k<=90000):a0J [.lst (ns.map D.int),.int k]=okI (numV ns k):=by
 obtain ⟨i,e,_⟩:=a9Z (ns:=ns) h0 h1
 unfold numV
 rw [e]
theorem a6n {ns:List Int} {k:Int} (h0:0<=k) (h1:k<=90000):-1000000000<=numV ns k/\numV ns k<=1000000000:=by
 obtain ⟨i,e,h⟩:=a9Z (ns:=ns) h0 h1
 unfold numV
 rw [e]
 exact h
theorem letter8 {k:Nat} (h:k<8):∃c,dIx (.str (Str.ofString "abcdefgh")) (.int k)=okD (.str ⟨#[c]⟩):=by
 have hk:k=0\/k=1\/k=2\/k=3\/k=4\/k=5\/k=6\/k=7:=by omega
 rcases hk with rfl|rfl|rfl|rfl|rfl|rfl|rfl|rfl <;> exact ⟨_,rfl⟩
def a9h (ns:List Int) (sz many:Int) (k:Nat) (ρ:MEnv):Prop:=∃(bs:List Bx) (e4 e5 e6 e7:Option S),bs.length=k/\(∀b∈bs,BxOk b)/\
 ρ=[some (.sh (.lst (ns.map D.int))),some (.sh (.int sz)),some (.sh (.int many)),some (.own (.lst (bs.map bD))),e4,e5,e6,e7]
theorem b3B {ns:List Int} {sz many:Int} (hs:sz=1\/sz=2) {k:Nat} (hk:k<8) {ρ:MEnv} (I:a9h ns sz many k ρ):∃ρ1 ρ2,a09 4 (.int k) ρ=some ρ1/\a6C ρ1=some (.next ρ2)/\a9h ns sz many (k+1) ρ2:=by
 obtain ⟨bs,e4,e5,e6,e7,hl,hb,rfl⟩:=I
 obtain ⟨c,hc⟩:=letter8 hk
 obtain ⟨at',hat⟩:∃a:Int,a=4+5 * (k:Int)+400 * ((k:Int) / 3):=⟨_,rfl⟩
 have ha:0<=at'/\at'<=10000:=by omega
 have n1:=a6o (ns:=ns) (k:=at') (by omega) (by omega)
 have n2:=a6o (ns:=ns) (k:=at'+3) (by omega) (by omega)
 have l1:=a6n (ns:=ns) (k:=at') (by omega) (by omega)
 have l2:=a6n (ns:=ns) (k:=at'+3) (by omega) (by omega)
 have m1:=a1J (ns:=ns) (k:=at'+2) (by omega) (by omega)
 have lb:(bs.map bD).length<lim:=by rw [length_map,hl];exact lt_of_lt_of_le hk (by decide)
 have fin:∀(q:List Int),BxOk (Str.mk #[c],q)->∀e7:Option S,∃ρ2,a7J [some (.sh (.lst (ns.map D.int))),some (.sh (.int sz)),some (.sh (.int many)),some (.own (.lst (bs.map bD))),some (.sh (.int k)),some (.sh (.int at')),some (.own (.lst (q.map D.int))),e7]=some (.next ρ2)/\a9h ns sz many (k+1) ρ2:=fun q hq e7=>by
  refine ⟨_,a1o (a4l rfl (tup2 (a0c rfl rfl hc) (a02 rfl rfl)) lb),bs++[(Str.mk #[c],q)],some (.sh (.int k)),some (.sh (.int at')),some (.sh (.lst (q.map D.int))),e7,by simp [hl],?_,?_⟩
  ·intro b hb'
   rcases mem_append.mp hb' with h|h
   ·exact hb b h
   ·rw [mem_singleton.mp h];exact hq
  ·rw [map_append];rfl
 obtain ⟨cc,hcc⟩:∃cc:Bool,eOr (eAnd (eBin dEq (eVar 1) (eC (.int 2))) (eBin dGt (eVar 7) (eBin dIx (eLst [(eC (.int 0)),(eC (.int 0)),(eC (.int 2))]) (eBin dMod (eVar 4) (eC (.int 3)))))) (eAnd (eBin dEq (eVar 1) (eC (.int 1))) (eBin dEq (eVar 7) (eC (.int 0))))
   [some (.sh (.lst (ns.map D.int))),some (.sh (.int sz)),some (.sh (.int many)),some (.own (.lst (bs.map bD))),some (.sh (.int k)),some (.sh (.int at')),some (.own (.lst [.int (numV ns at')])),some (.sh (.int (mixV ns (at'+2) % 5)))]=okB cc:=by
  rcases hs with rfl|rfl
  ·by_cases h:mixV ns (at'+2) % 5=0
   ·exact ⟨true,by simp (disch:=omega) only [eOr,eAnd,h,a2V,eVar,getElem?_cons_succ,getElem?_cons_zero,okD,eC,bindV_ok,S.val_sh,eq_d,okB,reduceEq,decide_false,asB,eLst,a56,okL,a0l,a1e,length_cons,length_nil,reduceAdd,reduceLeDiff,ite_true,a0P,okI,S.val_own,O.val_lst,false_eq_true,ite_false,decide_true]⟩
   ·exact ⟨false,by simp (disch:=omega) only [eOr,eAnd,a2V,eVar,getElem?_cons_succ,getElem?_cons_zero,okD,eC,bindV_ok,S.val_sh,eq_d,okB,reduceEq,decide_false,asB,eLst,a56,okL,a0l,a1e,length_cons,length_nil,reduceAdd,reduceLeDiff,ite_true,a0P,okI,S.val_own,O.val_lst,false_eq_true,ite_false,decide_true,h]⟩
  ·have h3:(k:Int) % 3=0\/(k:Int) % 3=1\/(k:Int) % 3=2:=by omega
   rcases h3 with h3|h3|h3
   ·by_cases h:0<mixV ns (at'+2) % 5
    ·exact ⟨true,by simp (disch:=omega) only [eOr,eAnd,a2V,eVar,getElem?_cons_succ,getElem?_cons_zero,okD,eC,bindV_ok,S.val_sh,eq_d,okB,decide_true,asB,eLst,a56,okL,a0l,a1e,length_cons,length_nil,reduceAdd,reduceLeDiff,ite_true,a0P,okI,h3,S.val_own,O.val_lst,b3j,gt_d,h,reduceEq,decide_false,false_eq_true,ite_false]⟩
    ·exact ⟨false,by simp (disch:=omega) only [eOr,eAnd,a2V,eVar,getElem?_cons_succ,getElem?_cons_zero,okD,eC,bindV_ok,S.val_sh,eq_d,okB,decide_true,asB,eLst,a56,okL,a0l,a1e,length_cons,length_nil,reduceAdd,reduceLeDiff,ite_true,a0P,okI,h3,S.val_own,O.val_lst,b3j,gt_d,h,decide_false,reduceEq,false_eq_true,ite_false]⟩
   ·by_cases h:0<mixV ns (at'+2) % 5
    ·exact ⟨true,by simp (disch:=omega) only [eOr,eAnd,a2V,eVar,getElem?_cons_succ,getElem?_cons_zero,okD,eC,bindV_ok,S.val_sh,eq_d,okB,decide_true,asB,eLst,a56,okL,a0l,a1e,length_cons,length_nil,reduceAdd,reduceLeDiff,ite_true,a0P,okI,h3,S.val_own,O.val_lst,b3i,gt_d,h,reduceEq,decide_false,false_eq_true,ite_false]⟩
    ·exact ⟨false,by simp (disch:=omega) only [eOr,eAnd,a2V,eVar,getElem?_cons_succ,getElem?_cons_zero,okD,eC,bindV_ok,S.val_sh,eq_d,okB,decide_true,asB,eLst,a56,okL,a0l,a1e,length_cons,length_nil,reduceAdd,reduceLeDiff,ite_true,a0P,okI,h3,S.val_own,O.val_lst,b3i,gt_d,h,decide_false,reduceEq,false_eq_true,ite_false]⟩
   ·by_cases h:2<mixV ns (at'+2) % 5
    ·exact ⟨true,by simp (disch:=omega) only [eOr,eAnd,a2V,eVar,getElem?_cons_succ,getElem?_cons_zero,okD,eC,bindV_ok,S.val_sh,eq_d,okB,decide_true,asB,eLst,a56,okL,a0l,a1e,length_cons,length_nil,reduceAdd,reduceLeDiff,ite_true,a0P,okI,h3,S.val_own,O.val_lst,ix_l2,gt_d,h,reduceEq,decide_false,false_eq_true,ite_false]⟩
    ·exact ⟨false,by simp (disch:=omega) only [eOr,eAnd,a2V,eVar,getElem?_cons_succ,getElem?_cons_zero,okD,eC,bindV_ok,S.val_sh,eq_d,okB,decide_true,asB,eLst,a56,okL,a0l,a1e,length_cons,length_nil,reduceAdd,reduceLeDiff,ite_true,a0P,okI,h3,S.val_own,O.val_lst,ix_l2,gt_d,h,decide_false,reduceEq,false_eq_true,ite_false]⟩
 have s1:(sSet 5 (eBin dAdd (eBin dAdd (eC (.int 4)) (eBin dMul (eC (.int 5)) (eVar 4))) (eBin dMul (eC (.int 400)) (eBin a4a (eVar 4) (eC (.int 3)))))) [some (.sh (.lst (ns.map D.int))),some (.sh (.int sz)),some (.sh (.int many)),some (.own (.lst (bs.map bD))),some (.sh (.int k)),e5,e6,e7]
   = some (.next [some (.sh (.lst (ns.map D.int))),some (.sh (.int sz)),some (.sh (.int many)),some (.own (.lst (bs.map bD))),some (.sh (.int k)),some (.sh (.int at')),e6,e7]):=by
  simp (disch:=omega) only [sSet,a2V,eC,okD,eVar,getElem?_cons_succ,getElem?_cons_zero,bindV_ok,S.val_sh,mulL,okI,add_int,a3s,set_cons_succ,set_cons_zero,bindO_ok]
  rw [hat]
 cases cc with
 | true=>
  obtain ⟨ρ2,h1,h2⟩:=fin [numV ns at',numV ns (at'+3)] ⟨by simp,by simp,by intro i hi;simp at hi;rcases hi with rfl|rfl <;> assumption⟩ (some (.sh (.int (mixV ns (at'+2) % 5))))
  exact ⟨_,ρ2,rfl,a0b s1 (a0b (a0p (a02 (a0M rfl rfl n1) rfl)) (a0b (a0p (a0c (a0M rfl (a0c rfl rfl rfl) m1) rfl (a0P (by decide)))) (a0b (if_t hcc (a4l rfl (a0M rfl (a0c rfl rfl rfl) n2) (by show 1<lim;decide))) h1))),h2⟩
 | false=>
  obtain ⟨ρ2,h1,h2⟩:=fin [numV ns at'] ⟨by simp,by simp,by intro i hi;simp at hi;subst hi;assumption⟩ (some (.sh (.int (mixV ns (at'+2) % 5))))
  exact ⟨_,ρ2,rfl,a0b s1 (a0b (a0p (a02 (a0M rfl rfl n1) rfl)) (a0b (a0p (a0c (a0M rfl (a0c rfl rfl rfl) m1) rfl (a0P (by decide)))) (a0b (if_f hcc rfl) h1))),h2⟩
theorem boxes_ok (ns:List Int):∃bs:List Bx,a4Q [.lst (ns.map D.int)]=okD (a0L bs)/\a1A bs:=by
 have m3:=a1J (ns:=ns) (k:=3) (by decide) (by decide)
 have m2:=a1J (ns:=ns) (k:=2) (by decide) (by decide)
 have b2:=a6P (ns:=ns) (k:=2)
 obtain ⟨many,hm,hm8⟩:∃many:Nat,eBin dIx (eLst [(eBin dMod (eBin a4a (eVar 2) (eC (.int 16))) (eC (.int 4))),(eBin dAdd (eC (.int 4)) (eBin dMod (eBin a4a (eVar 2) (eC (.int 16))) (eC (.int 5))))]) (a0l (f1 dInt) [(eBin dEq (eBin dMod (eVar 2) (eC (.int 8))) (eC (.int 0)))])
   [some (.sh (.lst (ns.map D.int))),some (.sh (.int (1+mixV ns 3 % 2))),some (.sh (.int (mixV ns 2))),none,none,none,none,none]=okI (many:Int)/\many<=8:=by
  by_cases h:mixV ns 2 % 8=0
  ·refine ⟨(4+mixV ns 2 / 16 % 5).toNat,?_,by omega⟩
   have:((4+mixV ns 2 / 16 % 5).toNat:Int)=4+mixV ns 2 / 16 % 5:=by omega
   rw [this]
   simp (disch:=omega) only [eLst,a56,okL,a2V,a0l,a1e,eVar,getElem?_cons_succ,getElem?_cons_zero,okD,eC,bindV_ok,S.val_sh,a3s,okI,a0P,add_int,length_cons,length_nil,reduceAdd,reduceLeDiff,ite_true,h,eq_d,okB,decide_true,f1,int_t,S.val_own,O.val_lst,b3i]
  ·refine ⟨(mixV ns 2 / 16 % 4).toNat,?_,by omega⟩
   have:((mixV ns 2 / 16 % 4).toNat:Int)=mixV ns 2 / 16 % 4:=by omega
   rw [this]
   simp (disch:=omega) only [eLst,a56,okL,a2V,a0l,a1e,eVar,getElem?_cons_succ,getElem?_cons_zero,okD,eC,bindV_ok,S.val_sh,a3s,okI,a0P,add_int,length_cons,length_nil,reduceAdd,reduceLeDiff,ite_true,eq_d,okB,h,decide_false,f1,int_f,S.val_own,O.val_lst,b3j]
 obtain ⟨ρ',e,bs,e4,e5,e6,e7,hl,hb,rfl⟩:=a6I (bd:=a09 4) (body:=a6C) (ρ:=[some (.sh (.lst (ns.map D.int))),some (.sh (.int (1+mixV ns 3 % 2))),some (.sh (.int many)),some (.own (.lst [])),none,none,none,none]) (a9h ns (1+mixV ns 3 % 2) many) many
  ⟨[],none,none,none,none,rfl,fun _ h=>(nomatch h),rfl⟩ (fun k ρ hk I=>b3B (by omega) (by omega) I)
 exact ⟨bs,a0x rfl (a0b (a0p (a0c rfl (a0c (a0M rfl rfl m3) rfl (a0P (by decide))) rfl)) (a0b (a0p (a0M rfl rfl m2)) (a0b (a0p hm) (a0b (a0p rfl) (a0b (a7B (a2f rfl (a1d (by omega))) e) (a1o (a0T (a02 rfl rfl)))))))),by omega,hb⟩
def st0 (bs:List Bx) (x:Nat):Int:=(bs.getD x (Str.empty,[])).2.getD 0 0
theorem st0_e {bs:List Bx} (hb:a1A bs) {x:Nat} (h:x<bs.length) {ρ:MEnv} {i j:Nat} (hi:ρ[i]?=some (some (.sh (a0L bs)))) (hj:ρ[j]?=some (some (.sh (.int x)))):eBin dIx (eBin dIx (eBin dIx (eVar i) (eVar j)) (eC (.int 1))) (eC (.int 0)) ρ=okI (st0 bs x):=by
 have hl:=(hb.2 bs[x] (getElem_mem h)).1
 refine a0c (a0c (a0c (a1M hi) (a1M hj) (a68 h)) rfl (b0i _)) rfl ?_
 have:(bs[x].2.map D.int)[0]?=some (.int (st0 bs x)):=by
  unfold st0
  rw [getD_eq_getElem?_getD (l:=bs),getElem?_eq_getElem h,Option.getD_some,getElem?_map,getD_eq_getElem?_getD,getElem?_eq_getElem (by omega)]
  rfl
 exact ix_tup this
theorem a8e {bs:List Bx} {x:Nat} (h:x<bs.length) {ρ:MEnv} {i j:Nat} (hi:ρ[i]?=some (some (.sh (a0L bs)))) (hj:ρ[j]?=some (some (.sh (.int x)))):a0r (f1 dLen) [eBin dIx (eBin dIx (eVar i) (eVar j)) (eC (.int 1))] ρ=okI (szB bs x:Nat):=by
 rw [a9s h]
 exact lenB (a0c (a0c (a1M hi) (a1M hj) (a68 h)) rfl (b0i _)) (a8Z _)
theorem a2q {bs:List Bx} (hb:a1A bs) {x:Nat} (h:x<bs.length):szB bs x=1\/szB bs x=2:=by
 have hx:=hb.2 bs[x] (getElem_mem h)
 rw [a9s h]
 have:=hx.1;have:=hx.2.1
 omega
abbrev intD (k:Nat):D:=.int k
def a5K (bs:List Bx) (x:Nat):List Nat:=(List.range bs.length).filter fun y=>!decide (y=x) && decide (szB bs y=szB bs x)
def ones (bs:List Bx) (x y:Nat):List Nat:=(List.range bs.length).filter fun t=>!decide (t=x) && (!decide (t=y) && decide (szB bs t=1))
theorem b4V {bs:List Bx} {x y:Nat}:y∈a5K bs x↔y<bs.length/\y≠x/\szB bs y=szB bs x:=by
 unfold a5K;rw [mem_filter,mem_range];simp
theorem ones_mem {bs:List Bx} {x y t:Nat}:t∈ones bs x y↔t<bs.length/\t≠x/\t≠y/\szB bs t=1:=by
 unfold ones;rw [mem_filter,mem_range];simp
theorem b4W {bs:List Bx} {x:Nat}:(a5K bs x).length<=bs.length:=by
 unfold a5K;refine le_trans (List.length_filter_le _ _) ?_;rw [length_range];exact le_refl _
theorem eqN (i j:Nat):dEq (.int i) (.int j)=okB (decide (i=j)):=by rw [eq_d,show decide ((i:Int)=(j:Int))=decide (i=j) from decide_eq_decide.mpr (by omega)]
theorem neN (i j:Nat):dNe (.int i) (.int j)=okB (!decide (i=j)):=by rw [ne_d,show decide ((i:Int)=(j:Int))=decide (i=j) from decide_eq_decide.mpr (by omega)]
theorem gtN (i j:Nat):dGt (.int i) (.int j)=okB (decide (j<i)):=by rw [gt_d,show decide ((j:Int)<(i:Int))=decide (j<i) from decide_eq_decide.mpr (by omega)]
theorem b51 {ρ:MEnv} {a b:ME} {p q:Bool} (h1:a ρ=okB p) (h2:b ρ=okB q):eAnd a b ρ=okB (p && q):=by
 cases p with
 | true=>exact a1Y h1 h2
 | false=>exact a46 h1
theorem or_b {ρ:MEnv} {a b:ME} {p q:Bool} (h1:a ρ=okB p) (h2:b ρ=okB q):eOr a b ρ=okB (p || q):=by
 cases p with
 | true=>exact or_t h1
 | false=>exact or_f h1 h2
theorem mates_e {bs:List Bx} (hb:a1A bs) {x:Nat} {sz:Int} (hs:sz=(szB bs x:Nat)) {ρ:MEnv} {js:List Nat} {i j s v:Nat} (h0:ρ[i]?=some (some (.sh (a0L bs)))) (hi:(a1q js ρ)[i]?=some (some (.sh (a0L bs)))) (hj:(a1q js ρ)[j]?=some (some (.sh (.int x)))) (hz:(a1q js ρ)[s]?=some (some (.sh (.int sz)))) (hv:v<ρ.length) (n1:v≠i) (n2:v≠j) (n3:v≠s) (hjs:(a1q js ρ).length=ρ.length):
  a1p js (a08 (a0r (f1 dLen) [eAny i])) (a09 v) (eAnd (eBin dNe (eVar v) (eVar j)) (eBin dEq (a0r (f1 dLen) [eBin dIx (eBin dIx (eVar i) (eVar v)) (eC (.int 1))]) (eVar s))) (eVar v) ρ=okL ((a5K bs x).map intD):=by
 unfold a5K
 refine a9d (List.range bs.length) intD (fun y=>!decide (y=x) && decide (szB bs y=szB bs x)) intD ?_ ?_ fun y hy=>?_
 ·rw [←rng0]
  exact a2f (lenB (a4d h0) (a7s bs)) (a1d (by have:=hb.1;omega))
 ·rw [length_range];exact le_trans hb.1 (by decide)
 ·have hy':=mem_range.mp hy
  have hself:((a1q js ρ).set v (some (.sh (intD y))))[v]?=some (some (.sh (intD y))):=getElem?_set_self (by omega)
  refine ⟨_,rfl,b51 (a0c (a1M hself) (a1M (by rw [getElem?_set_ne n2];exact hj)) (neN y x)) (a0c (a8e hy' (by rw [getElem?_set_ne n1];exact hi) hself) (a1M (by rw [getElem?_set_ne n3];exact hz)) (by rw [hs];exact eqN _ _)),fun _=>⟨_,a1M hself,rfl⟩⟩
theorem ones_e {bs:List Bx} (hb:a1A bs) {x y:Nat} {ρ:MEnv} {js:List Nat} {i j s v:Nat} (h0:ρ[i]?=some (some (.sh (a0L bs)))) (hi:(a1q js ρ)[i]?=some (some (.sh (a0L bs)))) (hj:(a1q js ρ)[j]?=some (some (.sh (.int x)))) (hz:(a1q js ρ)[s]?=some (some (.sh (.int y)))) (hv:v<ρ.length) (n1:v≠i) (n2:v≠j) (n3:v≠s) (hjs:(a1q js ρ).length=ρ.length):
  a1p js (a08 (a0r (f1 dLen) [eAny i])) (a09 v) (eAnd (eBin dNe (eVar v) (eVar j)) (eAnd (eBin dNe (eVar v) (eVar s)) (eBin dEq (a0r (f1 dLen) [eBin dIx (eBin dIx (eVar i) (eVar v)) (eC (.int 1))]) (eC (.int 1))))) (eVar v) ρ=okL ((ones bs x y).map intD):=by
 unfold ones
 refine a9d (List.range bs.length) intD (fun t=>!decide (t=x) && (!decide (t=y) && decide (szB bs t=1))) intD ?_ ?_ fun t ht=>?_
 ·rw [←rng0]
  exact a2f (lenB (a4d h0) (a7s bs)) (a1d (by have:=hb.1;omega))
 ·rw [length_range];exact le_trans hb.1 (by decide)
 ·have ht':=mem_range.mp ht
  have hself:((a1q js ρ).set v (some (.sh (intD t))))[v]?=some (some (.sh (intD t))):=getElem?_set_self (by omega)
  refine ⟨_,rfl,b51 (a0c (a1M hself) (a1M (by rw [getElem?_set_ne n2];exact hj)) (neN t x)) (b51 (a0c (a1M hself) (a1M (by rw [getElem?_set_ne n3];exact hz)) (neN t y)) (a0c (a8e ht' (by rw [getElem?_set_ne n1];exact hi) hself) rfl (eqN _ 1))),fun _=>⟨_,a1M hself,rfl⟩⟩
theorem b5a {l:List Nat} {j:Nat} (h:j<l.length):dIx (.lst (l.map intD)) (.int j)=okI (l[j]:Nat):=a3H (by rw [getElem?_map,getElem?_eq_getElem h];rfl)
theorem b5x {ns:List Int} {bs:List Bx} (hb:a1A bs) {k rest kind pick n:Int} {x m:Nat} {ms:D} (hk0:0<=k) (hk1:k<=80000) (hkind:0<=kind/\kind<11) (hk4:kind≠4) (hp:0<=pick/\pick<65519) (hn:b0K n) (hx:x<bs.length) (hm:m<bs.length) (hms:szB bs m=szB bs x):
  ∃dd:Deed,dd.Ok bs/\a6M [some (.sh (.lst (ns.map D.int))),some (.sh (.int k)),some (.sh (a0L bs)),some (.sh (.int rest)),some (.sh (.int kind)),some (.sh (.int pick)),some (.sh (.int n)),some (.sh (.int x)),some (.sh (.int (szB bs x:Nat))),some (.sh ms),some (.sh (.int m)),none,none,none,none]=some (.ret (.sh dd.d)):=by
 have h12:=a2q hb hx
 have hn2:=a6o (ns:=ns) (k:=k+5) (by omega) (by omega)
 have hl2:=a6n (ns:=ns) (k:=k+5) (by omega) (by omega)
 have hone:=ones_e (x:=x) (y:=m) hb (ρ:=[some (.sh (.lst (ns.map D.int))),some (.sh (.int k)),some (.sh (a0L bs)),some (.sh (.int rest)),some (.sh (.int kind)),some (.sh (.int pick)),some (.sh (.int n)),some (.sh (.int x)),some (.sh (.int (szB bs x:Nat))),some (.sh ms),some (.sh (.int m)),none,none,none,none]) (js:=[14]) (i:=2) (j:=7) (s:=10) (v:=14) rfl rfl rfl rfl (by show 14<15;decide) (by decide) (by decide) (by decide) rfl
 have late:(kind=0\/kind=1\/kind=8\/kind=9)->∃dd:Deed,dd.Ok bs/\a8x [some (.sh (.lst (ns.map D.int))),some (.sh (.int k)),some (.sh (a0L bs)),some (.sh (.int rest)),some (.sh (.int kind)),some (.sh (.int pick)),some (.sh (.int n)),some (.sh (.int x)),some (.sh (.int (szB bs x:Nat))),some (.sh ms),some (.sh (.int m)),none,none,none,none]=some (.ret (.sh dd.d)):=fun hkk=>by
  have put:∃dd:Deed,dd.Ok bs/\a8w [some (.sh (.lst (ns.map D.int))),some (.sh (.int k)),some (.sh (a0L bs)),some (.sh (.int rest)),some (.sh (.int kind)),some (.sh (.int pick)),some (.sh (.int n)),some (.sh (.int x)),some (.sh (.int (szB bs x:Nat))),some (.sh ms),some (.sh (.int m)),some (.own (.lst ((ones bs x m).map intD))),none,none,none]=some (.ret (.sh dd.d)):=by
   rcases h12 with h|h
   ·refine ⟨.put x [n],⟨hx,by rw [h];rfl,by intro i hi;simp at hi;subst hi;exact hn⟩,?_⟩
    rw [h]
    exact a0E (if_t rfl (a0T (a2n rfl rfl (a02 rfl rfl) rfl)))
   ·refine ⟨.put x [n,numV ns (k+5)],⟨hx,by rw [h];rfl,by intro i hi;simp at hi;rcases hi with rfl|rfl <;> assumption⟩,?_⟩
    rw [h]
    exact a0b (if_f rfl rfl) (a0T (a2n rfl rfl (a0M rfl (a0M rfl (a0c rfl rfl rfl) hn2) rfl) rfl))
  obtain ⟨dd,hd,he⟩:=put
  have hlen:dLen (.lst ((ones bs x m).map intD))=okI ((ones bs x m).length:Int):=by rw [a3t,length_map]
  by_cases c8:kind=8
  ·by_cases cm:m=x
   ·exact ⟨dd,hd,a0b (a0p hone) (a0b (if_f (a1Y (a0c rfl rfl (eq_t c8)) (a46 (a0c rfl rfl (ne_f (by omega))))) rfl) he)⟩
   ·by_cases cl:0<(ones bs x m).length
    ·obtain ⟨j,hj⟩:∃j:Nat,pick / 5 % ((ones bs x m).length:Int)=j:=⟨(pick / 5 % ((ones bs x m).length:Int)).toNat,by have:=emod_nonneg (pick / 5) (b:=((ones bs x m).length:Int)) (by omega);omega⟩
     have hjl:j<(ones bs x m).length:=by have:=emod_lt_of_pos (pick / 5) (b:=((ones bs x m).length:Int)) (by omega);omega
     have hmem:=ones_mem.mp (getElem_mem hjl)
     refine ⟨.anew x m ((ones bs x m)[j]),⟨hx,hm,hmem.1,fun z=>cm z.symm,fun z=>hmem.2.1 z.symm,fun z=>hmem.2.2.1 z.symm,hms,hmem.2.2.2⟩,a0b (a0p hone) (a0E (if_t (a1Y (a0c rfl rfl (eq_t c8)) (a1Y (a0c rfl rfl (ne_t (by omega))) (a0c (lenB rfl hlen) rfl (gt_t (by omega))))) (a1o (a0T (a77 (s4:=.sh (.int ((ones bs x m)[j]:Nat))) rfl rfl rfl (a0c rfl (a0c (a0c rfl rfl (a3s (by decide) (by decide))) (lenB rfl hlen) (a0P (by omega))) ?_) rfl)))))⟩
     rw [S.val_sh,hj]
     exact b5a hjl
    ·exact ⟨dd,hd,a0b (a0p hone) (a0b (if_f (a1Y (a0c rfl rfl (eq_t c8)) (a1Y (a0c rfl rfl (ne_t (by omega))) (a0c (lenB rfl hlen) rfl (gt_f (by omega))))) rfl) he)⟩
  ·exact ⟨dd,hd,a0b (a0p hone) (a0b (if_f (a46 (a0c rfl rfl (eq_f c8))) rfl) he)⟩
 have hkk:kind=0\/kind=1\/kind=2\/kind=3\/kind=4\/kind=5\/kind=6\/kind=7\/kind=8\/kind=9\/kind=10:=by omega
 have tl:(kind=0\/kind=8\/kind=9\/(kind=1/\m=x))->∃dd:Deed,dd.Ok bs/\a6M [some (.sh (.lst (ns.map D.int))),some (.sh (.int k)),some (.sh (a0L bs)),some (.sh (.int rest)),some (.sh (.int kind)),some (.sh (.int pick)),some (.sh (.int n)),some (.sh (.int x)),some (.sh (.int (szB bs x:Nat))),some (.sh ms),some (.sh (.int m)),none,none,none,none]=some (.ret (.sh dd.d)):=fun hw=>by
  obtain ⟨dd,hd,he⟩:=late (by omega)
  refine ⟨dd,hd,a0b (if_f (or_f (a0c rfl rfl (eq_f (by omega))) (a0c rfl rfl (eq_f (by omega)))) rfl) (a0b (if_f ?_ rfl) (a0b (if_f (or_f (a0c rfl rfl (eq_f (by omega))) (a46 (a0c rfl rfl (eq_f (by omega))))) rfl) (a0b (if_f (a0c rfl rfl (eq_f (by omega))) rfl) (a0b (if_f (or_f (a0c rfl rfl (eq_f (by omega))) (a0c rfl rfl (eq_f (by omega)))) rfl) he))))⟩
  by_cases h1:kind=1
  ·exact a1Y (a0c rfl rfl (eq_t h1)) (a0c rfl rfl (ne_f (by omega)))
  ·exact a46 (a0c rfl rfl (eq_f h1))
 have i5:∀c,(kind=c/\c≠5/\c≠6)->eOr (eBin dEq (eVar 4) (eC (.int 5))) (eBin dEq (eVar 4) (eC (.int 6))) [some (.sh (.lst (ns.map D.int))),some (.sh (.int k)),some (.sh (a0L bs)),some (.sh (.int rest)),some (.sh (.int kind)),some (.sh (.int pick)),some (.sh (.int n)),some (.sh (.int x)),some (.sh (.int (szB bs x:Nat))),some (.sh ms),some (.sh (.int m)),none,none,none,none]=okB false:=fun c ⟨h1,h2,h3⟩=>or_f (a0c rfl rfl (eq_f (by omega))) (a0c rfl rfl (eq_f (by omega)))
 by_cases c56:kind=5\/kind=6
 ·
  have t5:eOr (eBin dEq (eVar 4) (eC (.int 5))) (eBin dEq (eVar 4) (eC (.int 6))) [some (.sh (.lst (ns.map D.int))),some (.sh (.int k)),some (.sh (a0L bs)),some (.sh (.int rest)),some (.sh (.int kind)),some (.sh (.int pick)),some (.sh (.int n)),some (.sh (.int x)),some (.sh (.int (szB bs x:Nat))),some (.sh ms),some (.sh (.int m)),none,none,none,none]=okB true:=by
   rcases c56 with h|h
   ·exact or_t (a0c rfl rfl (eq_t h))
   ·exact or_f (a0c rfl rfl (eq_f (by omega))) (a0c rfl rfl (eq_t h))
  have gx:=st0_e hb hx (ρ:=[some (.sh (.lst (ns.map D.int))),some (.sh (.int k)),some (.sh (a0L bs)),some (.sh (.int rest)),some (.sh (.int kind)),some (.sh (.int pick)),some (.sh (.int n)),some (.sh (.int x)),some (.sh (.int (szB bs x:Nat))),some (.sh ms),some (.sh (.int m)),none,none,none,none]) (i:=2) (j:=7) rfl rfl
  have gm:=st0_e hb hm (ρ:=[some (.sh (.lst (ns.map D.int))),some (.sh (.int k)),some (.sh (a0L bs)),some (.sh (.int rest)),some (.sh (.int kind)),some (.sh (.int pick)),some (.sh (.int n)),some (.sh (.int x)),some (.sh (.int (szB bs x:Nat))),some (.sh ms),some (.sh (.int m)),none,none,none,none]) (i:=2) (j:=10) rfl rfl
  have last:∀(n':Int),b0K n'->∃dd:Deed,dd.Ok bs/\(sRet (eTup [(eBin dIx (eLst [(eC (.str (Str.ofString "is"))),(eC (.str (Str.ofString "most")))]) (eBin dSub (eVar 4) (eC (.int 5)))),(eVar 7),(eVar 10),(eVar 6)])) [some (.sh (.lst (ns.map D.int))),some (.sh (.int k)),some (.sh (a0L bs)),some (.sh (.int rest)),some (.sh (.int kind)),some (.sh (.int pick)),some (.sh (.int n')),some (.sh (.int x)),some (.sh (.int (szB bs x:Nat))),some (.sh ms),some (.sh (.int m)),none,some (.sh (.int (st0 bs x - st0 bs m))),none,none]=some (.ret (.sh dd.d)):=fun n' hn'=>by
   rcases c56 with rfl|rfl
   ·exact ⟨.iz x m n',⟨hx,hm,hms,hn'⟩,a0T (a77 (a0c rfl (a0c rfl rfl rfl) b3j) rfl rfl rfl rfl)⟩
   ·exact ⟨.most x m n',⟨hx,hm,hms,hn'⟩,a0T (a77 (a0c rfl (a0c rfl rfl rfl) b3i) rfl rfl rfl rfl)⟩
  by_cases q1:0<pick / 7 % 3
  ·by_cases q2:(if st0 bs x - st0 bs m<0 then -(st0 bs x - st0 bs m) else st0 bs x - st0 bs m)<=1000000000
   ·obtain ⟨dd,hd,he⟩:=last (st0 bs x - st0 bs m) (by unfold b0K;split at q2 <;> omega)
    exact ⟨dd,hd,a0E (if_t t5 (a0b (a0p (a0c gx gm rfl)) (a0b (if_t (a1Y (a0c (a0c (a0c rfl rfl (a3s (by decide) (by decide))) rfl (a0P (by decide))) rfl (gt_t q1)) (a0c (a02 rfl rfl) (a0c rfl rfl rfl) (le_t q2))) (a0p rfl)) he)))⟩
   ·obtain ⟨dd,hd,he⟩:=last n hn
    exact ⟨dd,hd,a0E (if_t t5 (a0b (a0p (a0c gx gm rfl)) (a0b (if_f (a1Y (a0c (a0c (a0c rfl rfl (a3s (by decide) (by decide))) rfl (a0P (by decide))) rfl (gt_t q1)) (a0c (a02 rfl rfl) (a0c rfl rfl rfl) (le_f q2))) rfl) he)))⟩
  ·obtain ⟨dd,hd,he⟩:=last n hn
   exact ⟨dd,hd,a0E (if_t t5 (a0b (a0p (a0c gx gm rfl)) (a0b (if_f (a46 (a0c (a0c (a0c rfl rfl (a3s (by decide) (by decide))) rfl (a0P (by decide))) rfl (gt_f q1))) rfl) he)))⟩
 ·have e56:=i5 kind ⟨rfl,by omega,by omega⟩
  by_cases c1:kind=1/\m≠x
  ·exact ⟨.copy x m,⟨hx,hm,fun z=>c1.2 z.symm,hms⟩,a0b (if_f e56 rfl) (a0E (if_t (a1Y (a0c rfl rfl (eq_t c1.1)) (a0c rfl rfl (ne_t (by omega)))) (a0T (a2n rfl rfl rfl rfl))))⟩
  ·by_cases cl:kind=0\/kind=8\/kind=9\/(kind=1/\m=x)
   ·exact tl cl
   ·have nc:eAnd (eBin dEq (eVar 4) (eC (.int 1))) (eBin dNe (eVar 10) (eVar 7)) [some (.sh (.lst (ns.map D.int))),some (.sh (.int k)),some (.sh (a0L bs)),some (.sh (.int rest)),some (.sh (.int kind)),some (.sh (.int pick)),some (.sh (.int n)),some (.sh (.int x)),some (.sh (.int (szB bs x:Nat))),some (.sh ms),some (.sh (.int m)),none,none,none,none]=okB false:=a46 (a0c rfl rfl (eq_f (by omega)))
    by_cases c2:kind=2
    ·exact ⟨.grow x n,⟨hx,hn⟩,a0b (if_f e56 rfl) (a0b (if_f nc rfl) (a0E (if_t (or_t (a0c rfl rfl (eq_t c2))) (a0T (a2n rfl rfl rfl rfl)))))⟩
    ·by_cases c3:kind=3
     ·by_cases c4:szB bs x=2
      ·exact ⟨.grow x n,⟨hx,hn⟩,a0b (if_f e56 rfl) (a0b (if_f nc rfl) (a0E (if_t (or_f (a0c rfl rfl (eq_f c2)) (a1Y (a0c rfl rfl (eq_t c3)) (a0c rfl rfl (eq_t (by omega))))) (a0T (a2n rfl rfl rfl rfl)))))⟩
      ·exact ⟨.tick x,⟨hx,by omega⟩,a0b (if_f e56 rfl) (a0b (if_f nc rfl) (a0b (if_f (or_f (a0c rfl rfl (eq_f c2)) (a1Y (a0c rfl rfl (eq_t c3)) (a0c rfl rfl (eq_f (by omega))))) rfl) (a0E (if_t (a0c rfl rfl (eq_t c3)) (a0T (a0M rfl rfl rfl))))))⟩
     ·by_cases c7:kind=7
      ·exact ⟨.non x,hx,a0b (if_f e56 rfl) (a0b (if_f nc rfl) (a0b (if_f (or_f (a0c rfl rfl (eq_f c2)) (a46 (a0c rfl rfl (eq_f c3)))) rfl) (a0b (if_f (a0c rfl rfl (eq_f c3)) rfl) (a0E (if_t (or_t (a0c rfl rfl (eq_t c7))) (a0T (a0M rfl rfl rfl)))))))⟩
      ·by_cases c10:kind=10
       ·exact ⟨.non x,hx,a0b (if_f e56 rfl) (a0b (if_f nc rfl) (a0b (if_f (or_f (a0c rfl rfl (eq_f c2)) (a46 (a0c rfl rfl (eq_f c3)))) rfl) (a0b (if_f (a0c rfl rfl (eq_f c3)) rfl) (a0E (if_t (or_f (a0c rfl rfl (eq_f c7)) (a0c rfl rfl (eq_t c10))) (a0T (a0M rfl rfl rfl)))))))⟩
       ·exfalso;omega
theorem lst_add {xs ys:List D} (h:xs.length+ys.length<=lim):dAdd (.lst xs) (.lst ys)=okL (xs++ys):=by show (if _ then _ else _)=_;exact if_pos h
theorem deed_ok {ns:List Int} {bs:List Bx} (hb:a1A bs) {k:Int} {rest:Nat} (hk0:0<=k) (hk1:k<=80000) (hr:1<=rest/\rest<=9):∃dd:Deed,dd.Ok bs/\a3n [.lst (ns.map D.int),.int k,a0L bs,.int rest]=okD dd.d:=by
 have m0:=a1J (ns:=ns) (k:=k) (by omega) (by omega)
 have m1:=a1J (ns:=ns) (k:=k+1) (by omega) (by omega)
 have m4:=a1J (ns:=ns) (k:=k+4) (by omega) (by omega)
 have n2:=a6o (ns:=ns) (k:=k+2) (by omega) (by omega)
 have l2:=a6n (ns:=ns) (k:=k+2) (by omega) (by omega)
 have b0:=a6P (ns:=ns) (k:=k)
 have b1:=a6P (ns:=ns) (k:=k+1)
 have h8:=hb.1
 have hlen:=a7s bs
 have still:eOr (eBin dEq (a0r (f1 dLen) [(eAny 2)]) (eC (.int 0))) (eBin dEq (eVar 4) (eC (.int 4))) [some (.sh (.lst (ns.map D.int))),some (.sh (.int k)),some (.sh (a0L bs)),some (.sh (.int rest)),some (.sh (.int (mixV ns k % 11))),some (.sh (.int (mixV ns (k+1)))),some (.sh (.int (numV ns (k+2)))),none,none,none,none,none,none,none,none]=okB true->
   ∃dd:Deed,dd.Ok bs/\a3n [.lst (ns.map D.int),.int k,a0L bs,.int rest]=okD dd.d:=fun h=>by
  obtain ⟨q,hq⟩:∃q:Nat,1+mixV ns (k+1) % (rest:Int)=q:=⟨(1+mixV ns (k+1) % (rest:Int)).toNat,by have:=emod_nonneg (mixV ns (k+1)) (b:=(rest:Int)) (by omega);omega⟩
  have hq2:=emod_lt_of_pos (mixV ns (k+1)) (b:=(rest:Int)) (by omega)
  have hq3:=emod_nonneg (mixV ns (k+1)) (b:=(rest:Int)) (by omega)
  refine ⟨.still q,⟨by omega,by omega⟩,a0x rfl (a0b (a0p (a0c (a0M rfl rfl m0) rfl (a0P (by decide)))) (a0b (a0p (a0M rfl (a0c rfl rfl rfl) m1)) (a0b (a0p (a0M rfl (a0c rfl rfl rfl) n2)) (a0E (if_t h (a0T (a0M (s2:=.sh (.int q)) rfl (a0c rfl (a0c rfl rfl (a0P (by omega))) ?_) rfl)))))))⟩
  rw [S.val_sh,S.val_sh,add_int,hq]
 by_cases e0:bs.length=0
 ·exact still (or_t (a0c (lenB rfl hlen) rfl (eq_t (by omega))))
 by_cases e4:mixV ns k % 11=4
 ·exact still (or_f (a0c (lenB rfl hlen) rfl (eq_f (by omega))) (a0c rfl rfl (eq_t e4)))
 have nst:eOr (eBin dEq (a0r (f1 dLen) [(eAny 2)]) (eC (.int 0))) (eBin dEq (eVar 4) (eC (.int 4))) [some (.sh (.lst (ns.map D.int))),some (.sh (.int k)),some (.sh (a0L bs)),some (.sh (.int rest)),some (.sh (.int (mixV ns k % 11))),some (.sh (.int (mixV ns (k+1)))),some (.sh (.int (numV ns (k+2)))),none,none,none,none,none,none,none,none]=okB false:=
  or_f (a0c (lenB rfl hlen) rfl (eq_f (by omega))) (a0c rfl rfl (eq_f e4))
 obtain ⟨x,hx⟩:∃x:Nat,mixV ns (k+1) % (bs.length:Int)=x:=⟨(mixV ns (k+1) % (bs.length:Int)).toNat,by have:=emod_nonneg (mixV ns (k+1)) (b:=(bs.length:Int)) (by omega);omega⟩
 have hxl:x<bs.length:=by have:=emod_lt_of_pos (mixV ns (k+1)) (b:=(bs.length:Int)) (by omega);omega
 have hmt:=mates_e (x:=x) (sz:=(szB bs x:Nat)) hb rfl (ρ:=[some (.sh (.lst (ns.map D.int))),some (.sh (.int k)),some (.sh (a0L bs)),some (.sh (.int rest)),some (.sh (.int (mixV ns k % 11))),some (.sh (.int (mixV ns (k+1)))),some (.sh (.int (numV ns (k+2)))),some (.sh (.int x)),some (.sh (.int (szB bs x:Nat))),none,none,none,none,none,none]) (js:=[13]) (i:=2) (j:=7) (s:=8) (v:=13) rfl rfl rfl rfl (by show 13<15;decide) (by decide) (by decide) (by decide) rfl
 obtain ⟨j,hj⟩:∃j:Nat,mixV ns (k+4) % (((a5K bs x).length:Int)+1)=j:=⟨(mixV ns (k+4) % (((a5K bs x).length:Int)+1)).toNat,by have:=emod_nonneg (mixV ns (k+4)) (b:=(((a5K bs x).length:Int)+1)) (by omega);omega⟩
 have hjl:j<(a5K bs x++[x]).length:=by have:=emod_lt_of_pos (mixV ns (k+4)) (b:=(((a5K bs x).length:Int)+1)) (by omega);rw [length_append,length_singleton];omega
 obtain ⟨m,hm⟩:∃m,m=(a5K bs x++[x])[j]:=⟨_,rfl⟩
 have hmm:m<bs.length/\szB bs m=szB bs x:=by
  have:m∈a5K bs x++[x]:=by rw [hm];exact getElem_mem hjl
  rcases mem_append.mp this with h|h
  ·have:=b4V.mp h;exact ⟨this.1,this.2.2⟩
  ·rw [mem_singleton.mp h];exact ⟨hxl,rfl⟩
 have hml:=b4W (bs:=bs) (x:=x)
 have hmlen:dLen (.lst ((a5K bs x).map intD))=okI ((a5K bs x).length:Int):=by rw [a3t,length_map]
 obtain ⟨dd,hd,he⟩:=b5x (ns:=ns) (rest:=rest) (ms:=.lst ((a5K bs x).map intD)) hb hk0 hk1 (kind:=mixV ns k % 11) ⟨by omega,by omega⟩ e4 b1 l2 hxl hmm.1 hmm.2
 refine ⟨dd,hd,a0x rfl (a0b (a0p (a0c (a0M rfl rfl m0) rfl (a0P (by decide)))) (a0b (a0p (a0M rfl (a0c rfl rfl rfl) m1)) (a0b (a0p (a0M rfl (a0c rfl rfl rfl) n2)) (a0b (if_f nst rfl) (a0b (a0p (s:=.sh (.int x)) (a0c rfl (lenB rfl hlen) ?_)) (a0b (a0p (a8e hxl rfl rfl)) (a0b (a0p hmt) (a1o (a0b (a0p (s:=.sh (.int m)) (a0c (a0c rfl (a02 rfl rfl) (lst_add ?_)) (a0c (a0M rfl (a0c rfl rfl rfl) m4) (a0c (lenB rfl hmlen) rfl rfl) (a0P (by omega))) ?_)) he)))))))))⟩
 ·rw [S.val_sh,S.val_sh,a0P (by omega),hx]
 ·rw [length_map];exact le_trans (by show _+1<=10;omega) (by decide)
 ·rw [S.val_sh,hj,hm]
  have:=b5a hjl
  rw [map_append] at this
  exact this
theorem shl1 {b:Nat} (hb:b<=100):dShl (.int 1) (.int (b:Int))=okI ((2 ^ b:Nat):Int):=by rw [b36 (by omega) (by omega) (by decide),toNat_natCast,Int.one_mul,Int.natCast_pow];rfl
def rowIv (ns:List Int) (k:Int) (bs:List Bx) (bells longest rest q:Nat) (ρ:MEnv):Prop:=∃(ps:List Pl) (e7 e8 e9 e10:Option S),ps.length=q/\(∀p∈ps,PlOk bs bells p)/\
 ρ=[some (.sh (.lst (ns.map D.int))),some (.sh (.int k)),some (.sh (a0L bs)),some (.sh (.int bells)),some (.sh (.int longest)),some (.sh (.int rest)),some (.own (.lst (ps.map plD))),e7,e8,e9,e10]
theorem row_ok {ns:List Int} {bs:List Bx} (hb:a1A bs) {k:Int} {bells longest rest:Nat} (hk0:0<=k) (hk1:k<=70000) (hbl:bells<=6) (hlo:1<=longest/\longest<=12) (hr:1<=rest/\rest<=9):
  ∃ps:List Pl,a4G [.lst (ns.map D.int),.int k,a0L bs,.int bells,.int longest,.int rest]=okD (.tup (ps.map plD))/\1<=ps.length/\ps.length<=longest/\∀p∈ps,PlOk bs bells p:=by
 have m0:=a1J (ns:=ns) (k:=k) (by omega) (by omega)
 have b0:=a6P (ns:=ns) (k:=k)
 obtain ⟨many,hm⟩:∃many:Nat,1+mixV ns k % (longest:Int)=many:=⟨(1+mixV ns k % (longest:Int)).toNat,by have:=emod_nonneg (mixV ns k) (b:=(longest:Int)) (by omega);omega⟩
 have hm2:=emod_lt_of_pos (mixV ns k) (b:=(longest:Int)) (by omega)
 have hm3:=emod_nonneg (mixV ns k) (b:=(longest:Int)) (by omega)
 have h2b:=Nat.two_pow_pos bells
 obtain ⟨ρ',e,ps,e7,e8,e9,e10,hl,hp,rfl⟩:=a6I (bd:=a09 7) (body:=b1B) (ρ:=[some (.sh (.lst (ns.map D.int))),some (.sh (.int k)),some (.sh (a0L bs)),some (.sh (.int bells)),some (.sh (.int longest)),some (.sh (.int rest)),some (.own (.lst [])),none,none,none,none]) (rowIv ns k bs bells longest rest) many
  ⟨[],none,none,none,none,rfl,fun _ h=>(nomatch h),rfl⟩ (by
  rintro p ρ hp ⟨ps,e7,e8,e9,e10,hl,hps,rfl⟩
  have m7:=a1J (ns:=ns) (k:=k+3+8 * (p:Int)+7) (by omega) (by omega)
  have b7:=a6P (ns:=ns) (k:=k+3+8 * (p:Int)+7)
  obtain ⟨dd,hd,he⟩:=deed_ok (ns:=ns) hb (k:=k+3+8 * (p:Int)) (rest:=rest) (by omega) (by omega) hr
  have fin:∀wd:Nat,wd<2 ^ (bells+1)->wd % 2=0->∃ρ2,a9l [some (.sh (.lst (ns.map D.int))),some (.sh (.int k)),some (.sh (a0L bs)),some (.sh (.int bells)),some (.sh (.int longest)),some (.sh (.int rest)),some (.own (.lst (ps.map plD))),some (.sh (.int p)),some (.sh (.int (k+3+8 * (p:Int)))),some (.sh (.int wd)),some (.sh (.int (mixV ns (k+3+8 * (p:Int)+7))))]=some (.next ρ2)/\rowIv ns k bs bells longest rest (p+1) ρ2:=fun wd h1 h2=>by
   refine ⟨_,a4l rfl (tup2 (a77 rfl rfl rfl rfl he) rfl) ?_,ps++[(dd,wd)],some (.sh (.int p)),some (.sh (.int (k+3+8 * (p:Int)))),some (.sh (.int wd)),some (.sh (.int (mixV ns (k+3+8 * (p:Int)+7)))),by simp [hl],?_,?_⟩
   ·rw [length_map,hl];exact lt_of_lt_of_le (by omega:p<13) (by decide)
   ·intro q hq
    rcases mem_append.mp hq with h|h
    ·exact hps q h
    ·rw [mem_singleton.mp h];exact ⟨hd,h1,h2⟩
   ·rw [map_append];rfl
  have hs1:(sSet 8 (eBin dAdd (eBin dAdd (eVar 1) (eC (.int 3))) (eBin dMul (eC (.int 8)) (eVar 7)))) [some (.sh (.lst (ns.map D.int))),some (.sh (.int k)),some (.sh (a0L bs)),some (.sh (.int bells)),some (.sh (.int longest)),some (.sh (.int rest)),some (.own (.lst (ps.map plD))),some (.sh (.int p)),e8,e9,e10]
    = some (.next [some (.sh (.lst (ns.map D.int))),some (.sh (.int k)),some (.sh (a0L bs)),some (.sh (.int bells)),some (.sh (.int longest)),some (.sh (.int rest)),some (.own (.lst (ps.map plD))),some (.sh (.int p)),some (.sh (.int (k+3+8 * (p:Int)))),e9,e10]):=by simp (disch:=omega) only [sSet,a2V,eVar,getElem?_cons_succ,getElem?_cons_zero,okD,eC,bindV_ok,S.val_sh,add_int,okI,mulL,set_cons_succ,set_cons_zero,bindO_ok]
  rcases mix2 (ns:=ns) (k:=k+3+8 * (p:Int)+7) with c|c
  ·obtain ⟨ρ2,h1,h2⟩:=fin 0 (Nat.two_pow_pos _) rfl
   exact ⟨_,ρ2,rfl,a0b hs1 (a0b (a0p rfl) (a0b (a0p (a0M rfl (a0c rfl rfl rfl) m7)) (a0b (if_f (a0c (a0c rfl rfl (a0P (by decide))) rfl (eq_f (by omega))) rfl) h1))),h2⟩
  ·obtain ⟨wd,hw⟩:∃wd:Nat,mixV ns (k+3+8 * (p:Int)+7) / 2 % ((2 ^ bells:Nat):Int)=wd:=⟨(mixV ns (k+3+8 * (p:Int)+7) / 2 % ((2 ^ bells:Nat):Int)).toNat,by have:=emod_nonneg (mixV ns (k+3+8 * (p:Int)+7) / 2) (b:=((2 ^ bells:Nat):Int)) (by omega);omega⟩
   have hwl:wd<2 ^ bells:=by have:=emod_lt_of_pos (mixV ns (k+3+8 * (p:Int)+7) / 2) (b:=((2 ^ bells:Nat):Int)) (by omega);omega
   obtain ⟨ρ2,h1,h2⟩:=fin (2 * wd) (by rw [Nat.pow_succ];omega) (by omega)
   refine ⟨_,ρ2,rfl,a0b hs1 (a0b (a0p rfl) (a0b (a0p (a0M rfl (a0c rfl rfl rfl) m7)) (a0b (if_t (a0c (a0c rfl rfl (a0P (by decide))) rfl (eq_t c)) (a0p (s:=.sh (.int (2 * wd:Nat))) (a0c rfl (a0c (a0c rfl rfl (a3s (by decide) (by decide))) (a0c rfl rfl (shl1 (by omega))) (a0P (by omega))) ?_))) h1))),h2⟩
   rw [S.val_sh,S.val_sh,hw,mulL (by decide) (by decide)]
   rfl)
 refine ⟨ps,a0x rfl (a0b (a0p rfl) (a0b (a7B (a2f (i:=many) (a0c rfl (a0c (a0M rfl rfl m0) rfl (a0P (by omega))) ?_) (a1d (by omega))) e) (a1o (a0T (a02 rfl rfl))))),by omega,by omega,hp⟩
 rw [S.val_sh,S.val_sh,add_int,hm]
theorem letter6 {k:Nat} (h:k<6):∃c,dIx (.str (Str.ofString "pqrstu")) (.int k)=okD (.str ⟨#[c]⟩):=by
 have hk:k=0\/k=1\/k=2\/k=3\/k=4\/k=5:=by omega
 rcases hk with rfl|rfl|rfl|rfl|rfl|rfl <;> exact ⟨_,rfl⟩
def progIv (ns:List Int) (bs:List Bx) (bells longest rest q:Nat) (ρ:MEnv):Prop:=∃(rs:List Rw) (e6 e7 e8:Option S),rs.length=q+1/\(∀r∈rs,RwOk bs bells longest r)/\(rs.getD 0 ⟨Str.empty,1,[]⟩).rk=0/\(∀k r,rs[k]?=some r->k≠0->1<=r.rk/\r.rk<=9)/\
 ρ=[some (.sh (.lst (ns.map D.int))),some (.sh (.int bells)),some (.sh (.int longest)),some (.sh (.int rest)),some (.sh (a0L bs)),some (.own (.lst (rs.map Rw.d))),e6,e7,e8]
theorem b2I (ns:List Int) {bells longest rest:Nat} (hbl:bells<=6) (hlo:1<=longest/\longest<=12) (hr:1<=rest/\rest<=9):
  ∃(bs:List Bx) (rs:List Rw),a3J [.lst (ns.map D.int),.int bells,.int longest,.int rest]=okD (a1k bs rs)/\ProgOk bs rs bells longest:=by
 obtain ⟨bs,hbe,hb⟩:=boxes_ok ns
 obtain ⟨p0,hp0,l1,l2,ok0⟩:=row_ok (ns:=ns) hb (k:=20) (bells:=bells) (longest:=longest) (rest:=rest) (by decide) (by decide) hbl hlo hr
 obtain ⟨ρ',e,rs,e6,e7,e8,hl,hrs,hmain,hrank,rfl⟩:=a6I (bd:=a09 6) (body:=a7I) (ρ:=[some (.sh (.lst (ns.map D.int))),some (.sh (.int bells)),some (.sh (.int longest)),some (.sh (.int rest)),some (.sh (a0L bs)),some (.own (.lst ([⟨Str.ofString "main",0,p0⟩].map Rw.d))),none,none,none]) (progIv ns bs bells longest rest) bells
  ⟨[⟨Str.ofString "main",0,p0⟩],none,none,none,rfl,by intro r h;rw [mem_singleton.mp h];exact ⟨l1,l2,ok0⟩,rfl,by intro k r h hk;cases k with
   | zero=>exact absurd rfl hk
   | succ k=>simp at h,rfl⟩ (by
  rintro b ρ hbk ⟨rs,e6,e7,e8,hl,hrs,hmain,hrank,rfl⟩
  obtain ⟨at',hat⟩:∃a:Int,a=20+(3+8 * (longest:Int)) * ((b:Int)+1):=⟨_,rfl⟩
  have ha:0<=at'/\at'<=1000:=by
   have h1:0<=(3+8 * (longest:Int)) * ((b:Int)+1):=Int.mul_nonneg (by omega) (by omega)
   have h2:(3+8 * (longest:Int)) * ((b:Int)+1)<=99 * ((b:Int)+1):=Int.mul_le_mul_of_nonneg_right (by omega) (by omega)
   omega
  have m1:=a1J (ns:=ns) (k:=at'+1) (by omega) (by omega)
  have m2:=a1J (ns:=ns) (k:=at'+2) (by omega) (by omega)
  have b1:=a6P (ns:=ns) (k:=at'+1)
  obtain ⟨ps,hpe,q1,q2,okp⟩:=row_ok (ns:=ns) hb (k:=at') (bells:=bells) (longest:=longest) (rest:=rest) (by omega) (by omega) hbl hlo hr
  obtain ⟨c,hc⟩:=letter6 (k:=b) (by omega)
  obtain ⟨rk,hrk,r1,r9⟩:∃rk:Nat,eBin dAdd (eC (.int 1)) (eBin dMod (a0l a0y [(eVar 0),(eBin dAdd (eVar 7) (eC (.int 1)))]) (eBin dIx (eLst [(eC (.int 3)),(eC (.int 9))]) (eBin dMod (a0l a0y [(eVar 0),(eBin dAdd (eVar 7) (eC (.int 2)))]) (eC (.int 2))))) [some (.sh (.lst (ns.map D.int))),some (.sh (.int bells)),some (.sh (.int longest)),some (.sh (.int rest)),some (.sh (a0L bs)),some (.own (.lst (rs.map Rw.d))),some (.sh (.int b)),some (.sh (.int at')),e8]=okI (rk:Int)/\1<=rk/\rk<=9:=by
   rcases mix2 (ns:=ns) (k:=at'+2) with h|h
   ·refine ⟨(1+mixV ns (at'+1) % 3).toNat,?_,by omega,by omega⟩
    rw [show ((1+mixV ns (at'+1) % 3).toNat:Int)=1+mixV ns (at'+1) % 3 by omega]
    simp (disch:=omega) only [eLst,a56,okL,a2V,eC,okD,a0l,a1e,eVar,getElem?_cons_zero,getElem?_cons_succ,bindV_ok,S.val_sh,add_int,okI,m1,length_cons,length_nil,reduceAdd,reduceLeDiff,ite_true,m2,a0P,h,S.val_own,O.val_lst,b3j]
   ·refine ⟨(1+mixV ns (at'+1) % 9).toNat,?_,by omega,by omega⟩
    rw [show ((1+mixV ns (at'+1) % 9).toNat:Int)=1+mixV ns (at'+1) % 9 by omega]
    simp (disch:=omega) only [eLst,a56,okL,a2V,eC,okD,a0l,a1e,eVar,getElem?_cons_zero,getElem?_cons_succ,bindV_ok,S.val_sh,add_int,okI,m1,length_cons,length_nil,reduceAdd,reduceLeDiff,ite_true,m2,a0P,h,S.val_own,O.val_lst,b3i]
  have hmul:dMul (.int (3+8 * (longest:Int))) (.int ((b:Int)+1))=okI ((3+8 * (longest:Int)) * ((b:Int)+1)):=mulL (by omega) (by omega)
  refine ⟨_,_,rfl,a0b (a0p (s:=.sh (.int at')) (a0c rfl (a0c (a0c rfl (a0c rfl rfl (mulL (by decide) (by decide))) rfl) (a0c rfl rfl rfl) hmul) ?_)) (a0b (a0p hrk) (a4l rfl (a2n (a0c rfl rfl hc) rfl (call6 rfl rfl rfl rfl rfl rfl hpe) rfl) ?_)),rs++[⟨Str.mk #[c],rk,ps⟩],some (.sh (.int b)),some (.sh (.int at')),some (.sh (.int rk)),by simp [hl],?_,?_,?_,?_⟩
  ·rw [S.val_sh,S.val_sh,add_int,hat]
  ·rw [length_map,hl];exact lt_of_lt_of_le (by omega:b+1<8) (by decide)
  ·intro r hr'
   rcases mem_append.mp hr' with h|h
   ·exact hrs r h
   ·rw [mem_singleton.mp h];exact ⟨q1,q2,okp⟩
  ·rw [getD_eq_getElem?_getD,getElem?_append_left (by omega),←getD_eq_getElem?_getD];exact hmain
  ·intro k r h hk
   by_cases hkl:k<rs.length
   ·rw [getElem?_append_left hkl] at h;exact hrank k r h hk
   ·rw [getElem?_append_right (by omega)] at h
    have:k - rs.length=0:=by
     by_cases z:k - rs.length=0
     ·exact z
     ·rw [getElem?_eq_none (by simp;omega)] at h;cases h
    rw [this] at h
    cases h
    exact ⟨r1,r9⟩
  ·rw [map_append];rfl)
 refine ⟨bs,rs,a0x rfl (a0b (a0p (a02 rfl hbe)) (a0b (a0p (a02 (a2n rfl rfl (call6 rfl rfl rfl rfl rfl rfl hp0) rfl) rfl)) (a0b (a7B (a2f rfl (a1d (by omega))) e) (a1o (a0T (tup2 (s1:=.sh (a0L bs)) (s2:=.sh (.tup (rs.map Rw.d))) rfl (a02 rfl rfl))))))),⟨hb,hl,hrs,hmain,hrank⟩⟩
inductive Pn:Nat->D->Prop
 | non (n):Pn n .non
 | int (n i):Pn n (.int i)
 | str (n x):Pn n (.str x)
 | tup (n ds):(∀d∈ds,Pn n d)->ds.length<=lim->Pn (n+1) (.tup ds)
 | lst (n ds):(∀d∈ds,Pn n d)->ds.length<=lim->Pn (n+1) (.lst ds)
theorem Pn.mono:∀{n m:Nat} {d:D},Pn n d->n<=m->Pn m d:=by
 intro n m d h
 induction h generalizing m with
 | non n=>exact fun _=>.non m
 | int n i=>exact fun _=>.int m i
 | str n x=>exact fun _=>.str m x
 | tup n ds hd hl ih=>
  intro hm
  obtain ⟨k,rfl⟩:∃k,m=k+1:=⟨m - 1,by omega⟩
  exact .tup k ds (fun d hd=>ih d hd (by omega)) hl
 | lst n ds hd hl ih=>
  intro hm
  obtain ⟨k,rfl⟩:∃k,m=k+1:=⟨m - 1,by omega⟩
  exact .lst k ds (fun d hd=>ih d hd (by omega)) hl
def b0I (n:Nat):List D->Option R:=Nat.rec (motive:=fun _=>List D->Option R) (fun _=>none) (fun _ G=>fnD 2 3 (a54 G)) n
theorem a4c (n:Nat):b0I (n+1)=fnD 2 3 (a54 (b0I n)):=rfl
theorem ix_mk {mk:List D->D} (hmk:mk=D.tup\/mk=D.lst) {ds:List D} {k:Nat} {d:D} (h:ds[k]?=some d):dIx (mk ds) (.int k)=okD d:=by
 rcases hmk with rfl|rfl
 ·exact ix_tup h
 ·exact a3H h
theorem blsAll {α:Type} (xs:List α):dAll (.lst (xs.map fun _=>D.bl true))=okB true:=by
 have h:∀l:List α,blsOf (l.map fun _=>D.bl true)=some (l.map fun _=>true):=fun l=>by
  induction l with
  | nil=>rfl
  | cons a l ih=>rw [map_cons,map_cons];unfold blsOf;rw [ih];rfl
 show (blsOf (xs.map fun _=>D.bl true)).bind (fun bs=>okB (bs.all id))=_
 rw [h]
 simp
theorem b0H (G:List D->Option R) (ds:List D) (mk:List D->D) (hmk:mk=D.tup\/mk=D.lst) (hl:ds.length<=lim) (h:∀d∈ds,G [d,d]=okB true) (e2:Option S):
  a0l (f1 dAll) [a1p [2] (a08 (a0r (f1 dLen) [eAny 1])) (a09 2) a2o (a0l G [(eBin dIx (eVar 0) (eVar 2)),(eBin dIx (eVar 1) (eVar 2))])] [some (.sh (mk ds)),some (.sh (mk ds)),e2]=okB true:=by
 have hlen:dLen (mk ds)=okI (ds.length:Int):=by rcases hmk with rfl|rfl <;> rfl
 refine a02 (a1S (List.range ds.length) (fun k:Nat=>D.int k) (fun _=>.bl true) ?_ (by rw [length_range];exact hl) fun k hk=>?_) (blsAll _)
 ·rw [←rng0]
  exact a2f (lenB rfl hlen) (a1d (le_trans hl (by decide)))
 ·have hk':=mem_range.mp hk
  have e:=getElem?_eq_getElem hk'
  exact ⟨_,rfl,_,a0M (a0c rfl rfl (ix_mk hmk e)) (a0c rfl rfl (ix_mk hmk e)) (h _ (getElem_mem hk')),rfl⟩
theorem b3I:∀(n:Nat) (d:D),Pn n d->b0I (n+1) [d,d]=okB true:=by
 intro n d h
 induction h with
 | non n=>rw [a4c];rfl
 | int n i=>
  rw [a4c]
  exact a0x rfl (a0b (if_f rfl rfl) (a0b (if_f rfl rfl) (a0b (if_f rfl rfl) (a0T (a1Y rfl (a1Y rfl (a0c rfl rfl (b1v i))))))))
 | str n x=>
  rw [a4c]
  exact a0x rfl (a0b (if_f rfl rfl) (a0b (if_f rfl rfl) (a0E (if_t rfl (a0T (a1Y rfl (a0c rfl rfl (a7C x))))))))
 | tup n ds hd hl ih=>
  rw [a4c]
  exact a0x rfl (a0E (if_t rfl (a0b (if_f rfl rfl) (a0b (if_f rfl rfl) (a0b (if_f (a0c rfl rfl (ne_f rfl)) rfl) (a0T (b0H (b0I (n+1)) ds D.tup (.inl rfl) hl ih none)))))))
 | lst n ds hd hl ih=>
  rw [a4c]
  exact a0x rfl (a0E (if_t rfl (a0b (if_f rfl rfl) (a0b (if_f rfl rfl) (a0b (if_f (a0c rfl rfl (ne_f rfl)) rfl) (a0T (b0H (b0I (n+1)) ds D.lst (.inr rfl) hl ih none)))))))
theorem b3H {n:Nat} {d:D} (h:Pn n d) (hn:n<=7):a39 [d,d]=okB true:=b3I 7 d (h.mono hn)
structure Fr where
 row:Nat
 place:Nat
 turn:Nat
 hand:List Int
def Fr.d (f:Fr):D:=.tup [.int f.row,.int f.place,.int f.turn,.tup (f.hand.map D.int)]
def a1U (p:List Fr):D:=.tup (p.map Fr.d)
def stD (p:List Fr) (cs:List Int):D:=.tup [a1U p,.tup (cs.map D.int)]
abbrev a0V (rs:List Rw) (k:Nat):Rw:=rs.getD k ⟨Str.empty,0,[]⟩
def wordN (rs:List Rw) (f:Fr):Nat:=((a0V rs f.row).pl[f.place]?.map (·.2)).getD 0
def shutN (rs:List Rw) (p:List Fr):Nat:=p.foldl (fun w f=>w ||| wordN rs f) 0
theorem a5C {rs:List Rw} {k:Nat} (h:k<rs.length):rs[k]=a0V rs k:=by
 unfold a0V;rw [getD_eq_getElem?_getD,getElem?_eq_getElem h];rfl
theorem a7x {rs:List Rw} {k:Nat} (h:k<rs.length):dIx (.tup (rs.map Rw.d)) (.int k)=okD (a0V rs k).d:=ix_tup (by rw [getElem?_map,getElem?_eq_getElem h,a5C h];rfl)
theorem ix_last {ds:List D} {d:D}:dIx (.tup (ds++[d])) (.int (-1))=okD d:=by
 show (atD (ds++[d]) (-1)).bind okD=_
 unfold atD ixD
 rw [if_neg (by decide),if_pos (by rw [length_append,length_singleton];omega)]
 have:((-1:Int)+((ds++[d]).length:Int)).toNat=ds.length:=by rw [length_append,length_singleton];omega
 simp only [Option.bind_some,this]
 rw [getElem?_append_right (le_refl _),Nat.sub_self]
 rfl
theorem a3Y (u:List Fr) (top:Fr):dIx (a1U (u++[top])) (.int (-1))=okD top.d:=by
 show dIx (.tup ((u++[top]).map Fr.d)) _=_
 rw [map_append];exact ix_last
theorem fr0 (f:Fr):dIx f.d (.int 0)=okI (f.row:Nat):=a0U
theorem a7i {bs:List Bx} {rs:List Rw} {k:Nat} (h:k<rs.length):a1L [a1k bs rs,.int k]=okD (.tup ((a0V rs k).pl.map plD)):=a0x rfl (a0T (a0c (a0c (a0c rfl rfl a0Z) rfl (a7x h)) rfl a2R))
theorem a5k (l:List Pl):dLen (.tup (l.map plD))=okI (l.length:Nat):=by rw [b2j,length_map]
theorem b3M {rs:List Rw} {f:Fr} (h:¬f.place<(a0V rs f.row).pl.length):wordN rs f=0:=by
 unfold wordN;rw [getElem?_eq_none (by omega)];rfl
theorem ix_word {rs:List Rw} {f:Fr} (h:f.place<(a0V rs f.row).pl.length) {ρ:MEnv} {a b:ME} (ha:a ρ=okD (.tup ((a0V rs f.row).pl.map plD))) (hb:b ρ=okI (f.place:Nat)):eBin dIx (eBin dIx a b) (eC (.int 1)) ρ=okI (wordN rs f:Nat):=by
 have e:dIx (.tup ((a0V rs f.row).pl.map plD)) (.int (f.place:Nat))=okD (plD (a0V rs f.row).pl[f.place]):=ix_tup (by rw [getElem?_map,getElem?_eq_getElem h];rfl)
 have e2:wordN rs f=(a0V rs f.row).pl[f.place].2:=by unfold wordN;rw [getElem?_eq_getElem h];rfl
 rw [e2]
 exact a0c (a0c ha hb e) rfl a0Z
theorem b1n {bs:List Bx} {rs:List Rw} {f:Fr} (h:f.row<rs.length) (hp:f.place<=(a0V rs f.row).pl.length):a4F [a1k bs rs,f.d]=okI (wordN rs f:Nat):=by
 by_cases c:f.place<(a0V rs f.row).pl.length
 ·exact a0x rfl (a0b (a0p (a0c (a0c (a0c rfl rfl a0Z) (a0c rfl rfl a0U) (a7x h)) rfl a2R)) (a0b (if_f (a0c (a0c rfl rfl a0Z) (lenB (a4d rfl) (a5k _)) (eq_f (by omega))) rfl) (a0T (ix_word c rfl (a0c rfl rfl a0Z)))))
 ·rw [b3M c]
  exact a0x rfl (a0b (a0p (a0c (a0c (a0c rfl rfl a0Z) (a0c rfl rfl a0U) (a7x h)) rfl a2R)) (a0E (if_t (a0c (a0c rfl rfl a0Z) (lenB (a4d rfl) (a5k _)) (eq_t (by omega))) rfl)))
def PlaceOk (rs:List Rw) (f:Fr):Prop:=f.row<rs.length/\f.place<=(a0V rs f.row).pl.length
theorem b2B (rs:List Rw) (p:List Fr) (f:Fr):shutN rs (p++[f])=shutN rs p ||| wordN rs f:=by unfold shutN;rw [List.foldl_append];rfl
def b5J (rs:List Rw) (p:List Fr) (top:Fr) (k:Nat):Bool:=decide ((a0V rs top.row).rk<(a0V rs k).rk) && !(shutN rs p).testBit k
def a4p (rs:List Rw) (p:List Fr) (top:Fr):List Nat:=((List.range (rs.length - 1)).filter fun k=>b5J rs p top (1+k)).map fun k=>1+k
theorem b3z (rs:List Rw) (p:List Fr) (top:Fr):(a4p rs p top).map intD=((List.range (rs.length - 1)).filter fun k=>b5J rs p top (1+k)).map fun k=>intD (1+k):=by
 unfold a4p;rw [map_map];rfl
theorem rk_e {rs:List Rw} {k:Nat}:dIx (a0V rs k).d (.int 1)=okI ((a0V rs k).rk:Nat):=a0Z
theorem a81 {bs:List Bx} {rs:List Rw} {u:List Fr} {top:Fr} (h:∀f∈u++[top],PlaceOk rs f) (hl:1<=rs.length/\rs.length<=7):a3D [a1k bs rs,a1U (u++[top])]=okL ((a4p rs (u++[top]) top).map intD):=by
 have ht:=(h top (by simp)).1
 have hlen:dLen (.tup (rs.map Rw.d))=okI (rs.length:Nat):=by rw [b2j,length_map]
 obtain ⟨ρ',e,e3,rfl⟩:=a6u (bd:=a09 3) (body:=a78) Fr.d (fun q ρ=>∃e3:Option S,ρ=[some (.sh (a1k bs rs)),some (.sh (a1U (u++[top]))),some (.sh (.int (shutN rs q:Nat))),e3,none,none,none,none]) (u++[top]) (ρ:=[some (.sh (a1k bs rs)),some (.sh (a1U (u++[top]))),some (.sh (.int 0)),none,none,none,none,none]) ⟨none,rfl⟩ (by
  rintro q f post ρ hq ⟨e3,rfl⟩
  have hf:f∈u++[top]:=by rw [hq];simp
  refine ⟨_,_,rfl,.inl (a0p (a0c rfl (a0M rfl rfl (b1n (h f hf).1 (h f hf).2)) (bor_nat _ _))),some (.sh f.d),?_⟩
  rw [b2B];rfl)
 have el:eBin dIx (eBin dIx (eVar 1) (eC (.int (-1)))) (eC (.int 0)) [some (.sh (a1k bs rs)),some (.sh (a1U (u++[top]))),some (.sh (.int (shutN rs (u++[top]):Nat))),e3,none,none,none,none]=okI (top.row:Nat):=a0c (a0c rfl rfl (a3Y u top)) rfl (fr0 top)
 have hr:a1p [6] (iSeq (eBin dIx (eVar 0) (eC (.int 1)))) (a09 6) a2o (eBin dIx (eVar 6) (eC (.int 1))) [some (.sh (a1k bs rs)),some (.sh (a1U (u++[top]))),some (.sh (.int (shutN rs (u++[top]):Nat))),e3,some (.sh (.int ((a0V rs top.row).rk:Nat))),none,none,none]=okL ((rs.map (·.rk)).map intD):=by
  rw [map_map]
  exact a1S rs Rw.d _ (a4i (a0c rfl rfl a0Z) rfl) (le_trans (by omega:rs.length<=7) (by decide)) fun r _=>⟨_,rfl,_,a0c rfl rfl a0Z,rfl⟩
 have hlr:dLen (.lst ((rs.map (·.rk)).map intD))=okI (rs.length:Nat):=by rw [a3t,length_map,length_map]
 have last:a1p [7] (a6a (eC (.int 1)) (a0r (f1 dLen) [(eAny 5)])) (a09 7) (eAnd (eBin dGt (eBin dIx (eVar 5) (eVar 7)) (eVar 4)) (eBin dEq (eBin dMod (eBin a4a (eVar 2) (eBin dShl (eC (.int 1)) (eVar 7))) (eC (.int 2))) (eC (.int 0)))) (eVar 7)
   [some (.sh (a1k bs rs)),some (.sh (a1U (u++[top]))),some (.sh (.int (shutN rs (u++[top]):Nat))),e3,some (.sh (.int ((a0V rs top.row).rk:Nat))),some (.sh (.lst ((rs.map (·.rk)).map intD))),none,none]=okL ((a4p rs (u++[top]) top).map intD):=by
  rw [b3z]
  refine a9d (List.range (rs.length - 1)) (fun k=>intD (1+k)) _ _ ?_ (by rw [length_range];exact le_trans (by omega:rs.length - 1<=6) (by decide)) fun k hk=>?_
  ·have:=rngN 1 rs.length
   rw [show ((1:Nat):Int)=1 from rfl] at this
   rw [←this]
   exact b1T rfl (lenB (a4d rfl) hlr) (by decide) (a1d (by omega))
  ·have hk':=mem_range.mp hk
   have hk7:1+k<rs.length:=by omega
   have ir:dIx (.lst ((rs.map (·.rk)).map intD)) (.int ((1+k:Nat):Int))=okI ((a0V rs (1+k)).rk:Nat):=a3H (by rw [getElem?_map,getElem?_map,getElem?_eq_getElem hk7,a5C hk7];rfl)
   have hs:dShl (.int 1) (.int ((1+k:Nat):Int))=okI ((2 ^ (1+k):Nat):Int):=by
    rw [b36 (by omega) (by omega) (by decide),toNat_natCast,Int.one_mul,Int.natCast_pow];rfl
   have hp:(0:Int)<((2 ^ (1+k):Nat):Int)/\((2 ^ (1+k):Nat):Int)<1073741824:=by
    have h1:2 ^ (1+k)<=2 ^ 6:=Nat.pow_le_pow_right (by decide) (by omega)
    have h2:0<2 ^ (1+k):=Nat.pow_pos (by decide)
    omega
   have hb:dEq (.int (((shutN rs (u++[top]):Nat):Int) / ((2 ^ (1+k):Nat):Int) % 2)) (.int 0)=okB (!(shutN rs (u++[top])).testBit (1+k)):=by
    rw [eq_d,Nat.testBit_eq_decide_div_mod_eq]
    congr 3
    rw [←decide_not]
    refine decide_eq_decide.mpr ?_
    rw [←Int.natCast_ediv]
    omega
   exact ⟨_,rfl,b51 (a0c (a0c rfl rfl ir) rfl (gtN _ _)) (a0c (a0c (a0c rfl (a0c rfl rfl hs) (a3s hp.1 hp.2)) rfl (a0P (by decide))) rfl hb),fun _=>⟨_,rfl,rfl⟩⟩
 exact a0x rfl (a0b (a0p rfl) (a0b (a7B (a4i rfl rfl) e) (a0b (a0p (a0c (a0c (a0c rfl rfl a0Z) el (a7x ht)) rfl rk_e)) (a0b (a0p hr) (a1o (a0T last))))))
def a4Y (k:Nat):Fr:=⟨k,0,0,[]⟩
theorem b33 {p:List Fr} (h:p.length<=1000) (k:Nat):dAdd (a1U p) (.tup [.tup [.int k,.int 0,.int 0,.tup []]])=okD (a1U (p++[a4Y k])):=by
 show dAdd (.tup (p.map Fr.d)) _=okD (.tup ((p++[a4Y k]).map Fr.d))
 rw [cat_t (by rw [length_map,length_singleton];omega),map_append];rfl
theorem b1o {p:List Fr} (h:p.length<=1000) (cs:List Int) (k:Nat):a3o [stD p cs,.int k]=okD (stD (p++[a4Y k]) cs):=
 a0x rfl (a0T (tup2 (s1:=.sh (a1U (p++[a4Y k]))) (s2:=.sh (.tup (cs.map D.int))) (a0c (a0c rfl rfl a0U) (a02 (a77 rfl rfl rfl rfl rfl) rfl) (b33 h k)) (a0c rfl rfl a0Z)))
def a2J (bs:List Bx):List Int:=(bs.map (·.2)).flatten
theorem b0N (q:List Bx) (b:Bx):a2J (q++[b])=a2J q++b.2:=by unfold a2J;rw [map_append,List.flatten_append];simp
theorem b3Y {bs:List Bx} (hb:∀b∈bs,b.2.length<=2):(a2J bs).length<=2 * bs.length:=by
 induction bs with
 | nil=>exact le_refl _
 | cons b bs ih=>
  have h1:=hb b mem_cons_self
  have h2:=ih fun c hc=>hb c (mem_cons_of_mem _ hc)
  show ((b::bs).map (·.2)).flatten.length<=_
  rw [map_cons,flatten_cons,length_append,length_cons]
  unfold a2J at h2
  omega
theorem pre_len {q post:List Bx} {b:Bx} {bs:List Bx} (hb:a1A bs) (h:bs=q++b::post):(a2J q).length<=16/\b.2.length<=2:=by
 have h8:=hb.1
 have hq:∀c∈q,c.2.length<=2:=fun c hc=>(hb.2 c (by rw [h];simp [hc])).2.1
 have h1:=b3Y hq
 have h2:q.length<=8:=by rw [h,length_append] at h8;omega
 exact ⟨by omega,(hb.2 b (by rw [h];simp)).2.1⟩
theorem b0g {bs:List Bx} {rs:List Rw} (hb:a1A bs):a4R [a1k bs rs]=okD (stD [a4Y 0] (a2J bs)):=by
 obtain ⟨ρ',e,s1,e2,h1,rfl⟩:=a6u (bd:=a09 2) (body:=a9m) bD (fun q ρ=>∃(s1:S) (e2:Option S),(s1=.own (.lst ((a2J q).map D.int)))/\ρ=[some (.sh (a1k bs rs)),some s1,e2]) bs (ρ:=[some (.sh (a1k bs rs)),some (.own (.lst [])),none]) ⟨_,none,rfl,rfl⟩ (by
  rintro q b post ρ hq ⟨s1,e2,rfl,rfl⟩
  obtain ⟨l1,l2⟩:=pre_len hb hq
  refine ⟨_,_,rfl,.inl (a1o (a0p (a0c rfl (a02 (a0c rfl rfl (b0i b)) rfl) (a60 (by rw [length_map,length_map];omega))))),_,some (.sh (bD b)),rfl,?_⟩
  rw [b0N,map_append];rfl)
 subst h1
 exact a0x rfl (a0b (a0p rfl) (a0b (a7B (a4i (a0c rfl rfl a0U) rfl) e) (a1o (a0T (tup2 (s1:=.sh (a1U [a4Y 0])) (s2:=.sh (.tup ((a2J bs).map D.int))) (a02 (a77 rfl rfl rfl rfl rfl) rfl) (a02 rfl rfl))))))
def fstB (bs:List Bx) (x:Nat):Nat:=((List.range x).map (szB bs)).sum
def totB (bs:List Bx):Nat:=fstB bs bs.length
theorem a89 (bs:List Bx) (x:Nat):fstB bs (x+1)=fstB bs x+szB bs x:=by
 unfold fstB;rw [List.range_succ,map_append,List.sum_append];simp
theorem b2a {bs:List Bx}:∀{x y:Nat},x<=y->fstB bs x<=fstB bs y
 | x,0,h=>by rw [Nat.le_zero.mp h];exact le_refl _
 | x,y+1,h=>by
  by_cases e:x=y+1
  ·rw [e];exact le_refl _
  ·rw [a89];have:=b2a (bs:=bs) (x:=x) (y:=y) (by omega);omega
theorem b5q {bs:List Bx} {x y:Nat} (h:x<y):fstB bs x+szB bs x<=fstB bs y:=by rw [←a89];exact b2a h
theorem a2k {bs:List Bx} {x:Nat} (h:x<bs.length):fstB bs x+szB bs x<=totB bs:=b5q h
theorem b5r {bs:List Bx} (hb:a1A bs):∀{x:Nat},x<=bs.length->fstB bs x<=2 * x
 | 0,_=>le_refl _
 | x+1,h=>by
  rw [a89]
  have:=b5r hb (x:=x) (by omega)
  rcases a2q hb (x:=x) (by omega) with e|e <;> omega
theorem b3T {bs:List Bx} (hb:a1A bs):totB bs<=16:=by
 have:=b5r hb (le_refl bs.length);have:=hb.1;unfold totB;omega
def a0j (bs:List Bx) (x:Nat):List Nat:=(List.range (szB bs x)).map fun k=>fstB bs x+k
theorem sum_nat (l:List Nat):(l.map fun n:Nat=>(n:Int)).sum=((l.sum:Nat):Int):=by
 induction l with
 | nil=>rfl
 | cons n l ih=>rw [map_cons,List.sum_cons,List.sum_cons,ih];omega
theorem b2i (l:List Nat):dSum (.lst (l.map intD))=okI ((l.sum:Nat):Int):=by
 have:l.map intD=(l.map fun n:Nat=>(n:Int)).map D.int:=by rw [map_map];rfl
 rw [this]
 show (intsOf _).bind _=_
 rw [b16]
 show okI _=_
 rw [sum_nat]
theorem a9f {bs:List Bx} {x c:Nat} (h:x<bs.length) (hc:c∈a0j bs x):c<totB bs:=by
 unfold a0j at hc
 obtain ⟨k,hk,rfl⟩:=mem_map.mp hc
 have:=mem_range.mp hk
 have:=a2k h
 omega
theorem a0N (bs:List Bx) (x:Nat):(a0j bs x).length=szB bs x:=by unfold a0j;rw [length_map,length_range]
theorem clen {bs:List Bx} (hb:a1A bs) {x:Nat} (h:x<bs.length):(a0j bs x).length<=2:=by rw [a0N];rcases a2q hb h with e|e <;> omega
theorem b2o {bs:List Bx} (hb:a1A bs) {x:Nat} (h:x<bs.length):(a0j bs x)[0]?=some (fstB bs x):=by
 unfold a0j
 rw [getElem?_map,getElem?_range (by rcases a2q hb h with e|e <;> omega)]
 rfl
theorem a7G {bs:List Bx} {x k:Nat} (h:k<szB bs x):(a0j bs x)[k]?=some (fstB bs x+k):=by
 unfold a0j
 rw [getElem?_map,getElem?_range h]
 rfl
theorem a4L {bs:List Bx} {x k:Nat} (h:k<szB bs x):dIx (.lst ((a0j bs x).map intD)) (.int k)=okI (fstB bs x+k:Nat):=a3H (by rw [getElem?_map,a7G h];rfl)
theorem a7w {vs:List Int} {c:Nat} (h:c<vs.length):dIx (.tup (vs.map D.int)) (.int c)=okI (vs.getD c 0):=ix_tup (by rw [getElem?_map,getElem?_eq_getElem h,getD_eq_getElem?_getD,getElem?_eq_getElem h];rfl)
theorem a8d {bs:List Bx} {x:Nat} (h:x<bs.length):a4E [a0L bs,.int x]=okI (szB bs x:Nat):=a0x rfl (a0T (a8e h rfl rfl))
theorem a0Y {bs:List Bx} (hb:a1A bs) {x:Nat} (h:x<bs.length):a1D [a0L bs,.int x]=okL ((a0j bs x).map intD):=by
 have h8:=hb.1
 have ht:=b3T hb
 have hf:=a2k h
 have hc:a1p [3] (a08 (eVar 1)) (a09 3) a2o (a0l a4E [(eVar 0),(eVar 3)]) [some (.sh (a0L bs)),some (.sh (.int x)),none,none]=okL ((List.range x).map fun k=>intD (szB bs k)):=
  a1S (List.range x) intD _ (by rw [←rng0];exact a2f rfl (a1d (by omega))) (by rw [length_range];exact le_trans (by omega:x<=8) (by decide)) fun k hk=>⟨_,rfl,_,a0M rfl rfl (a8d (by have:=mem_range.mp hk;omega)),rfl⟩
 have hs:dSum (.lst ((List.range x).map fun k=>intD (szB bs k)))=okI (fstB bs x:Nat):=by
  have:((List.range x).map fun k=>intD (szB bs k))=((List.range x).map (szB bs)).map intD:=by rw [map_map];rfl
  rw [this,b2i];rfl
 have hr:a6x (.int (fstB bs x:Nat)) (.int ((fstB bs x:Nat)+(szB bs x:Nat):Int))=okL ((a0j bs x).map intD):=by
  rw [b4n (by exact a1d (by omega)) (by exact a1d (n:=fstB bs x+szB bs x) (by omega)) (le_trans (by omega:_<=16) (by decide))]
  have e:=rngN (fstB bs x) (fstB bs x+szB bs x)
  rw [Nat.add_sub_cancel_left] at e
  show okL (rng (fstB bs x:Nat) (((fstB bs x+szB bs x:Nat):Int)))=_
  rw [e]
  unfold a0j
  rw [map_map]
  rfl
 exact a0x rfl (a0b (a0p (a02 hc hs)) (a0T (a0c rfl (a0c rfl (a0M rfl rfl (a8d h)) rfl) hr)))
abbrev Stp:=List Nat×List Nat
def a6D (p:Stp):D:=.tup [.tup (p.1.map intD),.tup (p.2.map intD)]
def srt (bs:List Bx) (x y:Nat):List Nat:=(a5W ((a0j bs x++a0j bs y).map fun n:Nat=>(n:Int))).map Int.toNat
def a3X (bs:List Bx):Deed->List Stp
 | .put x _=>(a0j bs x).map fun c=>([],[c])
 | .copy x y=>(List.range (szB bs x)).map fun k=>([fstB bs y+k],[fstB bs x+k])
 | .grow x _=>((a0j bs x).map fun c=>([c],[]))++(a0j bs x).map fun c=>([],[c])
 | .tick x=>[([fstB bs x],[fstB bs x])]
 | .still n=>replicate n ([],[])
 | .iz x y _=>[(srt bs x y,[])]
 | .most x y _=>[(srt bs x y,[])]
 | .non _=>[([],[])]
 | .anew x y t=>(([fstB bs t]++a0j bs y++[fstB bs t]).map fun c=>([c],[]))++(a0j bs x).map fun c=>([],[c])
abbrev planS:Str:=Str.ofString "plan"
def planD (bs:List Bx) (dd:Deed):D:=.lst ((a3X bs dd).map a6D)
def b5G:Deed->String
 | .put _ _ => "Put" | .copy _ _ => "Copy" | .grow _ _ => "Grow" | .tick _ => "Tick" | .still _ => "Still" | .iz _ _ _ => "Comparing" | .most _ _ _ => "Comparing" | .non _ => "Untouched" | .anew _ _ _ => "Anew"
def a6G:Deed->List Str
 | .put _ _=>[Str.ofString "numbers"]|.grow _ _=>[Str.ofString "size",Str.ofString "number"]|.anew _ _ _=>[Str.ofString "check"]|_=>[]
def b2d (bs:List Bx):Deed->List D
 | .put _ ns=>[.tup (ns.map D.int)]|.grow x n=>[.int (szB bs x:Nat),.int n]|.anew _ y _=>[.int ((szB bs y:Nat)+1:Int)]|_=>[]
def objOf (bs:List Bx) (dd:Deed):O:=.obj (b5G dd) (planS::a6G dd) (planD bs dd::b2d bs dd)
abbrev DC:List String:=["Deed","Promise","Comparing","Untouched","Still","Put","Copy","Tick","Handed","Grow","Anew"]
theorem b2n (dd:Deed):DC.contains (b5G dd)=true:=by cases dd <;> rfl
theorem a5G {c:String} (hc:DC.contains c=true) (p:D):a4j (.obj c [] []) [p]=some (.obj c [planS] [p]):=a6Y rfl (seqI (a9y rfl hc rfl (by decide)) rfl)
theorem comp_r {A:List Nat} (hA:A.length<=100) {ρ:MEnv} {js:List Nat} {it:MI} {v:Nat} (hi:it ρ=some (.ok (A.map intD))) (hv:v<(a1q js ρ).length):a1p js it (a09 v) a2o (eTup [(eTup [(eVar v)]),(eTup [])]) ρ=okL ((A.map fun c=>(([c],[]):Stp)).map a6D):=by
 rw [map_map]
 exact a1S A intD _ hi (le_trans hA (by decide)) fun b _=>⟨_,rfl,_,tup2 (a02 (a1M (getElem?_set_self hv)) rfl) rfl,rfl⟩
theorem comp_w {A:List Nat} (hA:A.length<=100) {ρ:MEnv} {js:List Nat} {it:MI} {v:Nat} (hi:it ρ=some (.ok (A.map intD))) (hv:v<(a1q js ρ).length):a1p js it (a09 v) a2o (eTup [(eTup []),(eTup [(eVar v)])]) ρ=okL ((A.map fun c=>(([],[c]):Stp)).map a6D):=by
 rw [map_map]
 exact a1S A intD _ hi (le_trans hA (by decide)) fun b _=>⟨_,rfl,_,tup2 rfl (a02 (a1M (getElem?_set_self hv)) rfl),rfl⟩
theorem a8n {c:String} (hc:DC.contains c=true) {A B:List Nat} (hA:A.length<=100) (hB:B.length<=100):a5F (.obj c [] []) [.lst (A.map intD),.lst (B.map intD)]=some (.obj c [planS] [.lst (((A.map fun c=>(([c],[]):Stp))++B.map fun c=>(([],[c]):Stp)).map a6D)]):=by
 refine a6Y rfl (seqI (a9j (s1:=.own (.lst (((A.map fun c=>(([c],[]):Stp))++B.map fun c=>(([],[c]):Stp)).map a6D))) (a0c (comp_r hA (a4i rfl rfl) (by show 3<4;decide)) (comp_w hB (a4i rfl rfl) (by show 3<4;decide)) ?_) (a5G hc _)) rfl)
 show dAdd (.lst _) (.lst _)=_
 rw [a60 (by rw [length_map,length_map,length_map,length_map];omega),map_append]
theorem a58 {c:String} (hc:DC.contains c=true) {A:List Nat}:a4D (.obj c [] []) [.lst (A.map intD)]=some (.obj c [planS] [.lst ([((A,[]):Stp)].map a6D)]):=
 a6Y rfl (seqI (a9j (a02 (tup2 (a02 rfl rfl) rfl) rfl) (a5G hc _)) rfl)
theorem insD_mem {k m:Int}:∀{l:List Int},m∈insD k l->m=k\/m∈l
 | [],h=>by simp [insD] at h;exact .inl h
 | x::r,h=>by
  unfold insD at h
  split at h
  ·rcases mem_cons.mp h with h|h
   ·exact .inl h
   ·exact .inr h
  ·split at h
   ·exact .inr h
   ·rcases mem_cons.mp h with h|h
    ·exact .inr (by rw [h];exact mem_cons_self)
    ·rcases insD_mem h with h|h
     ·exact .inl h
     ·exact .inr (mem_cons_of_mem _ h)
theorem sortD_mem {m:Int}:∀{l:List Int},m∈a5W l->m∈l
 | [],h=>h
 | x::r,h=>by
  rcases insD_mem (show m∈insD x (a5W r) from h) with h|h
  ·rw [h];exact mem_cons_self
  ·exact mem_cons_of_mem _ (sortD_mem h)
theorem b32 {bs:List Bx} (hb:a1A bs) {x y:Nat} (hx:x<bs.length) (hy:y<bs.length):a9c (.lst ((a0j bs x).map intD++(a0j bs y).map intD))=okL ((srt bs x y).map intD):=by
 have e:(a0j bs x).map intD++(a0j bs y).map intD=((a0j bs x++a0j bs y).map fun n:Nat=>(n:Int)).map D.int:=by
  rw [←map_append,map_map];rfl
 rw [e]
 show (intsOf _).bind _=_
 rw [b16]
 show (if fewD _=true then _ else none)=_
 have few:fewD ((a0j bs x++a0j bs y).map fun n:Nat=>(n:Int))=true:=by
  unfold fewD
  rw [and_eq_true]
  constructor
  ·have h1:=a2q hb hx;have h2:=a2q hb hy
   rw [decide_eq_true_iff,length_map,length_append,a0N,a0N];omega
  ·rw [all_eq_true]
   intro n hn
   obtain ⟨c,hc,rfl⟩:=mem_map.mp hn
   have ht:=b3T hb
   have:c<totB bs:=by
    rcases mem_append.mp hc with h|h
    ·exact a9f hx h
    ·exact a9f hy h
   simp
   omega
 rw [if_pos few]
 unfold srt
 rw [map_map]
 refine congrArg okL (List.map_congr_left fun n hn=>?_)
 obtain ⟨c,hc,rfl⟩:=mem_map.mp (sortD_mem hn)
 rfl
theorem b3x {bs:List Bx} (hb:a1A bs) {dd:Deed} (ok:dd.Ok bs):a6v [a0L bs,dd.d]=some (.ok (.own (objOf bs dd))):=by
 cases dd with
 | still n=>
  have hn:n<=9:=ok.2
  refine a0x rfl (a0b (a0p (a0c rfl rfl a0U)) (a0E (if_t (a0c rfl rfl (a2l rfl)) (a0T (make1 (a0c rfl rfl a0Z) (a6Y rfl (seqI (a9j (rep_e (ds:=[a6D ([],[])]) (k:=(n:Int)) rfl rfl ⟨by omega,by omega,?_⟩) (a5G rfl _)) ?_)))))))
  ·rw [toNat_natCast,length_singleton];exact le_trans (by omega:1 * n<=9) (by decide)
  ·show some (O.obj "Still" [planS] [.lst (replicate (n:Int).toNat [a6D ([],[])]).flatten])=some (O.obj "Still" [planS] [.lst ((replicate n (([],[]):Stp)).map a6D)])
   rw [toNat_natCast,List.map_replicate]
   congr 5
   induction n with
   | zero=>rfl
   | succ n ih=>rw [replicate_succ,replicate_succ,flatten_cons];exact congrArg _ (by
     clear ih ok hn
     induction n with
     | zero=>rfl
     | succ n ih=>rw [replicate_succ,replicate_succ,flatten_cons,ih];rfl)
 | non x=>
  exact a0x rfl (a0b (a0p (a0c rfl rfl a0U)) (a0b (if_f (a0c rfl rfl (a0G (by decide))) rfl) (a0E (if_t (a0c rfl rfl (a2l rfl)) (a0T (make0 (a6Y rfl (seqI (a9j rfl (a58 (A:=[]) rfl)) rfl))))))))
 | put x ns=>
  have hx:x<bs.length:=ok.1
  have hc:=a0Y hb hx
  have h2:=clen hb hx
  exact a0x rfl (a0b (a0p (a0c rfl rfl a0U)) (a0b (if_f (a0c rfl rfl (a0G (by decide))) rfl) (a0b (if_f (a0c rfl rfl (a0G (by decide))) rfl) (a0b (a0p (a0M rfl (a0c rfl rfl a0Z) hc)) (a0E (if_t (a0c rfl rfl (a2l rfl)) (a1o (a0T (b4Y rfl (a0c rfl rfl a2R)
   (a6Y rfl (seqI (a9j (comp_w (by omega) (a4i rfl rfl) (by show 3<4;decide)) (a5G rfl _)) (seqI (a9y (a02 rfl rfl) rfl rfl (by decide)) rfl))))))))))))
 | grow x n=>
  have hx:x<bs.length:=ok.1
  have hc:=a0Y hb hx
  have h2:=clen hb hx
  have hl:dLen (.lst ((a0j bs x).map intD))=okI (szB bs x:Nat):=by rw [a3t,length_map,a0N]
  exact a0x rfl (a0b (a0p (a0c rfl rfl a0U)) (a0b (if_f (a0c rfl rfl (a0G (by decide))) rfl) (a0b (if_f (a0c rfl rfl (a0G (by decide))) rfl) (a0b (a0p (a0M rfl (a0c rfl rfl a0Z) hc)) (a0b (if_f (a0c rfl rfl (a0G (by decide))) rfl) (a0E (if_t (a0c rfl rfl (a2l rfl)) (a1o (a0T (b4Y rfl (a0c rfl rfl a2R)
   (a6Y rfl (seqI (base2 rfl rfl (a8n rfl (by omega) (by omega))) (seqI (a9y (lenB rfl hl) rfl rfl (by decide)) (seqI (a9y rfl rfl rfl (by decide)) rfl))))))))))))))
 | tick x=>
  have hx:x<bs.length:=ok.1
  have hc:=a0Y hb hx
  have h1:dIx (.lst ((a0j bs x).map intD)) (.int 0)=okI (fstB bs x:Nat):=a3H (n:=0) (by rw [getElem?_map,b2o hb hx];rfl)
  exact a0x rfl (a0b (a0p (a0c rfl rfl a0U)) (a0b (if_f (a0c rfl rfl (a0G (by decide))) rfl) (a0b (if_f (a0c rfl rfl (a0G (by decide))) rfl) (a0b (a0p (a0M rfl (a0c rfl rfl a0Z) hc)) (a0b (if_f (a0c rfl rfl (a0G (by decide))) rfl) (a0b (if_f (a0c rfl rfl (a0G (by decide))) rfl) (a0E (if_t (a0c rfl rfl (a2l rfl)) (a1o (a0T (make1 (a0c rfl rfl h1)
   (a6Y rfl (seqI (a9j (a02 (tup2 (a02 rfl rfl) (a02 rfl rfl)) rfl) (a5G rfl _)) rfl)))))))))))))
 | copy x y=>
  have hx:x<bs.length:=ok.1
  have hy:y<bs.length:=ok.2.1
  have hxy:szB bs y=szB bs x:=ok.2.2.2
  have hc:=a0Y hb hx
  have hd:=a0Y hb hy
  have h12:=a2q hb hx
  have hl:dLen (.lst ((a0j bs x).map intD))=okI (szB bs x:Nat):=by rw [a3t,length_map,a0N]
  have hcomp:a1p [3] (a08 (a0r (f1 dLen) [(eAny 1)])) (a09 3) a2o (eTup [(eTup [(eBin dIx (eVar 2) (eVar 3))]),(eTup [(eBin dIx (eVar 1) (eVar 3))])]) [none,some (.sh (.lst ((a0j bs x).map intD))),some (.sh (.lst ((a0j bs y).map intD))),none]=okL (((List.range (szB bs x)).map fun k=>(([fstB bs y+k],[fstB bs x+k]):Stp)).map a6D):=by
   rw [map_map]
   refine a1S (List.range (szB bs x)) intD _ (by rw [←rng0];exact a2f (lenB rfl hl) (a1d (by omega))) (by rw [length_range];exact le_trans (by omega:szB bs x<=2) (by decide)) fun k hk=>⟨_,rfl,_,tup2 (a02 (a0c rfl rfl (a4L (by have:=mem_range.mp hk;omega))) rfl) (a02 (a0c rfl rfl (a4L (mem_range.mp hk))) rfl),rfl⟩
  exact a0x rfl (a0b (a0p (a0c rfl rfl a0U)) (a0b (if_f (a0c rfl rfl (a0G (by decide))) rfl) (a0b (if_f (a0c rfl rfl (a0G (by decide))) rfl) (a0b (a0p (a0M rfl (a0c rfl rfl a0Z) hc)) (a0b (if_f (a0c rfl rfl (a0G (by decide))) rfl) (a0b (if_f (a0c rfl rfl (a0G (by decide))) rfl) (a0b (if_f (a0c rfl rfl (a0G (by decide))) rfl) (a0b (a0p (a0M rfl (a0c rfl rfl a2R) hd)) (a0E (if_t (a0c rfl rfl (a2l rfl)) (a1o (a1o (a0T (b4Y rfl rfl
   (a6Y rfl (seqI (a9j hcomp (a5G rfl _)) rfl))))))))))))))))
 | anew x y t=>
  obtain ⟨hx,hy,ht,nxy,nxt,nyt,hxy,ht1⟩:=ok
  have hc:=a0Y hb hx
  have hd:=a0Y hb hy
  have he:=a0Y hb ht
  have h2:=clen hb hx
  have h3:=clen hb hy
  have h1:dIx (.lst ((a0j bs t).map intD)) (.int 0)=okI (fstB bs t:Nat):=a3H (n:=0) (by rw [getElem?_map,b2o hb ht];rfl)
  have hl:dLen (.lst ((a0j bs y).map intD))=okI (szB bs y:Nat):=by rw [a3t,length_map,a0N]
  have e1:dAdd (.lst [.int (fstB bs t:Nat)]) (.lst ((a0j bs y).map intD))=okL (([fstB bs t]++a0j bs y).map intD):=by
   rw [a60 (by rw [length_map,length_singleton];omega),map_append];rfl
  have e2:dAdd (.lst (([fstB bs t]++a0j bs y).map intD)) (.lst [.int (fstB bs t:Nat)])=okL (([fstB bs t]++a0j bs y++[fstB bs t]).map intD):=by
   rw [a60 (by rw [length_map,length_append,length_singleton,length_singleton];omega),map_append (l₁:=[fstB bs t]++a0j bs y)];rfl
  exact a0x rfl (a0b (a0p (a0c rfl rfl a0U)) (a0b (if_f (a0c rfl rfl (a0G (by decide))) rfl) (a0b (if_f (a0c rfl rfl (a0G (by decide))) rfl) (a0b (a0p (a0M rfl (a0c rfl rfl a0Z) hc)) (a0b (if_f (a0c rfl rfl (a0G (by decide))) rfl) (a0b (if_f (a0c rfl rfl (a0G (by decide))) rfl) (a0b (if_f (a0c rfl rfl (a0G (by decide))) rfl) (a0b (a0p (a0M rfl (a0c rfl rfl a2R) hd)) (a0b (if_f (a0c rfl rfl (a0G (by decide))) rfl) (a0E (if_t (a0c rfl rfl (a2l rfl)) (a1o (a1o (a0T (make3 rfl rfl (a0c (a0M rfl (a0c rfl rfl b1q) he) rfl h1)
   (a6Y rfl (seqI (base2 (a0c (a0c (a02 rfl rfl) rfl e1) (a02 rfl rfl) e2) rfl (a8n rfl (by rw [length_append,length_append,length_singleton];omega) (by omega))) (seqI (a9y (a0c (lenB rfl hl) rfl rfl) rfl rfl (by decide)) rfl))))))))))))))))))
 | iz x y n=>
  obtain ⟨hx,hy,hxy,_⟩:=ok
  have hc:=a0Y hb hx
  have hd:=a0Y hb hy
  have h2:=clen hb hx
  have h3:=clen hb hy
  exact a0x rfl (a0b (a0p (a0c rfl rfl a0U)) (a0b (if_f (a0c rfl rfl (a0G (by decide))) rfl) (a0b (if_f (a0c rfl rfl (a0G (by decide))) rfl) (a0b (a0p (a0M rfl (a0c rfl rfl a0Z) hc)) (a0b (if_f (a0c rfl rfl (a0G (by decide))) rfl) (a0b (if_f (a0c rfl rfl (a0G (by decide))) rfl) (a0b (if_f (a0c rfl rfl (a0G (by decide))) rfl) (a0b (a0p (a0M rfl (a0c rfl rfl a2R) hd)) (a0b (if_f (a0c rfl rfl (a0G (by decide))) rfl) (a0b (if_f (a0c rfl rfl (a0G (by decide))) rfl) (a1o (a1o (a0T (b4Y rfl rfl
   (a6Y rfl (seqI (a9j (un_e (a0c rfl rfl (a60 (by rw [length_map,length_map];omega))) (b32 hb hx hy)) (a58 rfl)) rfl))))))))))))))))
 | most x y n=>
  obtain ⟨hx,hy,hxy,_⟩:=ok
  have hc:=a0Y hb hx
  have hd:=a0Y hb hy
  have h2:=clen hb hx
  have h3:=clen hb hy
  exact a0x rfl (a0b (a0p (a0c rfl rfl a0U)) (a0b (if_f (a0c rfl rfl (a0G (by decide))) rfl) (a0b (if_f (a0c rfl rfl (a0G (by decide))) rfl) (a0b (a0p (a0M rfl (a0c rfl rfl a0Z) hc)) (a0b (if_f (a0c rfl rfl (a0G (by decide))) rfl) (a0b (if_f (a0c rfl rfl (a0G (by decide))) rfl) (a0b (if_f (a0c rfl rfl (a0G (by decide))) rfl) (a0b (a0p (a0M rfl (a0c rfl rfl a2R) hd)) (a0b (if_f (a0c rfl rfl (a0G (by decide))) rfl) (a0b (if_f (a0c rfl rfl (a0G (by decide))) rfl) (a1o (a1o (a0T (b4Y rfl rfl
   (a6Y rfl (seqI (a9j (un_e (a0c rfl rfl (a60 (by rw [length_map,length_map];omega))) (b32 hb hx hy)) (a58 rfl)) rfl))))))))))))))))
theorem fld0 (f:Str) (ns:List Str) (d:D) (ds:List D):fldD f (f::ns) (d::ds)=some d:=by
 unfold fldD;rw [if_pos (by simp)]
theorem reads_e {c:String} (hc:DC.contains c=true) {ns:List Str} {pl:List Stp} {ds:List D} {k:Nat} {p:Stp} (h:pl[k]?=some p):a3E [.obj c (planS::ns) (.lst (pl.map a6D)::ds),.int k]=okL (p.1.map intD):=
 a0x rfl (a0T (a02 (a0c (a0c (fld_e rfl rfl hc (fld0 planS ns _ ds)) rfl (a3H (by rw [getElem?_map,h];rfl))) rfl a0U) rfl))
theorem writes_e {c:String} (hc:DC.contains c=true) {ns:List Str} {pl:List Stp} {ds:List D} {k:Nat} {p:Stp} (h:pl[k]?=some p):a2U [.obj c (planS::ns) (.lst (pl.map a6D)::ds),.int k]=okL (p.2.map intD):=
 a0x rfl (a0T (a02 (a0c (a0c (fld_e rfl rfl hc (fld0 planS ns _ ds)) rfl (a3H (by rw [getElem?_map,h];rfl))) rfl a0Z) rfl))
theorem b2y {c:String} (hc:DC.contains c=true):a62 c=some a3E:=by unfold a62 tbG;rw [if_pos hc]
theorem b0M {c:String} (hc:DC.contains c=true):a6e c=some a2U:=by unfold a6e tbG;rw [if_pos hc]
theorem plan_put {bs:List Bx} {x k:Nat} {ns:List Int} (h:k<szB bs x):(a3X bs (.put x ns))[k]?=some ([],[fstB bs x+k]):=by
 show ((a0j bs x).map _)[k]?=_
 rw [getElem?_map,a7G h];rfl
theorem b4s {bs:List Bx} {x y k:Nat} (h:k<szB bs x):(a3X bs (.copy x y))[k]?=some ([fstB bs y+k],[fstB bs x+k]):=by
 show ((List.range (szB bs x)).map _)[k]?=_
 rw [getElem?_map,getElem?_range h];rfl
theorem b2K {bs:List Bx} {x k:Nat} {n:Int} (h:k<szB bs x):(a3X bs (.grow x n))[k]?=some ([fstB bs x+k],[]):=by
 show (((a0j bs x).map _)++_)[k]?=_
 rw [getElem?_append_left (by rw [length_map,a0N];exact h),getElem?_map,a7G h];rfl
theorem b2J {bs:List Bx} {x k:Nat} {n:Int} (h0:szB bs x<=k) (h:k<2 * szB bs x):(a3X bs (.grow x n))[k]?=some ([],[fstB bs x+(k - szB bs x)]):=by
 show (((a0j bs x).map _)++_)[k]?=_
 rw [getElem?_append_right (by rw [length_map,a0N];exact h0),length_map,a0N,getElem?_map,a7G (by omega)];rfl
theorem b1X {bs:List Bx}:∀{dd:Deed},(a3X bs dd).length=match dd with|.put x _=>szB bs x|.copy x _=>szB bs x|.grow x _=>2 * szB bs x|.tick _=>1|.still n=>n|.iz _ _ _=>1|.most _ _ _=>1|.non _=>1|.anew x y _=>szB bs y+2+szB bs x
 | .put x _=>by show ((a0j bs x).map _).length=_;rw [length_map,a0N]
 | .copy x _=>by show ((List.range (szB bs x)).map _).length=_;rw [length_map,length_range]
 | .grow x _=>by show (((a0j bs x).map _)++_).length=_;rw [length_append,length_map,length_map,a0N];show _=2 * szB bs x;omega
 | .tick _=>rfl
 | .still n=>by show (replicate n _).length=_;rw [length_replicate]
 | .iz _ _ _=>rfl
 | .most _ _ _=>rfl
 | .non _=>rfl
 | .anew x y t=>by show ((([fstB bs t]++a0j bs y++[fstB bs t]).map _)++(a0j bs x).map _).length=_;rw [length_append,length_map,length_map,length_append,length_append,a0N,a0N];show _=szB bs y+2+szB bs x;simp;omega
theorem b2N {bs:List Bx} {x y t k:Nat} (h:k=0\/k=szB bs y+1):(a3X bs (.anew x y t))[k]?=some ([fstB bs t],[]):=by
 show ((([fstB bs t]++a0j bs y++[fstB bs t]).map _)++_)[k]?=_
 rw [getElem?_append_left (by rw [length_map,length_append,length_append,a0N];simp;omega),getElem?_map]
 rcases h with rfl|rfl
 ·rfl
 ·rw [getElem?_append_right (by rw [length_append,a0N];simp;omega),length_append,a0N]
  show (([fstB bs t][szB bs y+1 - (1+szB bs y)]?).map _)=_
  rw [show szB bs y+1 - (1+szB bs y)=0 by omega];rfl
theorem b2M {bs:List Bx} {x y t k:Nat} (h:k<szB bs y):(a3X bs (.anew x y t))[k+1]?=some ([fstB bs y+k],[]):=by
 show ((([fstB bs t]++a0j bs y++[fstB bs t]).map _)++_)[k+1]?=_
 rw [getElem?_append_left (by rw [length_map,length_append,length_append,a0N];simp;omega),getElem?_map,getElem?_append_left (by rw [length_append,a0N];simp;omega)]
 show (((a0j bs y)[k]?).map _)=_
 rw [a7G h];rfl
theorem b2L {bs:List Bx} {x y t k:Nat} (h:k<szB bs x):(a3X bs (.anew x y t))[szB bs y+2+k]?=some ([],[fstB bs x+k]):=by
 show ((([fstB bs t]++a0j bs y++[fstB bs t]).map _)++_)[szB bs y+2+k]?=_
 have hl:((([fstB bs t]++a0j bs y++[fstB bs t]).map fun c=>(([c],[]):Stp))).length=szB bs y+2:=by rw [length_map,length_append,length_append,a0N];simp;omega
 rw [getElem?_append_right (by rw [hl];omega),hl,getElem?_map,show szB bs y+2+k - (szB bs y+2)=k by omega,a7G h];rfl
section
variable {bs:List Bx} {vs hand:List Int} {turn:Nat}
end
theorem a0X {bs:List Bx} (hb:a1A bs) {x:Nat} (h:x<bs.length):a1z [a0L bs,.int x]=okL ((a0j bs x).map intD):=by
 have h8:=hb.1
 have hc:a1p [4] (a08 (eVar 1)) (a09 4) a2o (a0r (f1 dLen) [(eBin dIx (eBin dIx (eVar 0) (eVar 4)) (eC (.int 1)))]) [some (.sh (a0L bs)),some (.sh (.int x)),none,none,none]=okL ((List.range x).map fun k=>intD (szB bs k)):=
  a1S (List.range x) intD _ (by rw [←rng0];exact a2f rfl (a1d (by omega))) (by rw [length_range];exact le_trans (by omega:x<=8) (by decide)) fun k hk=>⟨_,rfl,_,a8e (by have:=mem_range.mp hk;omega) rfl rfl,rfl⟩
 have hs:dSum (.lst ((List.range x).map fun k=>intD (szB bs k)))=okI (fstB bs x:Nat):=by
  have:((List.range x).map fun k=>intD (szB bs k))=((List.range x).map (szB bs)).map intD:=by rw [map_map];rfl
  rw [this,b2i];rfl
 have h12:=a2q hb h
 refine a0x rfl (a0b (a0p (a02 hc hs)) (a0T (s:=.own (.lst ((a0j bs x).map intD))) ?_))
 unfold a0j
 rw [map_map]
 exact a1S (List.range (szB bs x)) intD _ (by rw [←rng0];exact a2f (a8e h rfl rfl) (a1d (by omega))) (by rw [length_range];exact le_trans (by omega:szB bs x<=2) (by decide)) fun k _=>⟨_,rfl,_,a0c rfl rfl rfl,rfl⟩
inductive Tn where
 | rest|lay (c:Nat) (v:Int)|tick (c:Nat)|take (c:Nat)|back (c i:Nat) (n:Int)|move (c e:Nat)|same (c:Nat)
def Tn.d:Tn->D
 | .rest=>.tup [.str (Str.ofString "rest"),.int 0,.int 0]
 | .lay c v=>.tup [.str (Str.ofString "lay"),.int c,.int v]
 | .tick c=>.tup [.str (Str.ofString "tick"),.int c,.int 0]
 | .take c=>.tup [.str (Str.ofString "take"),.int c,.int 0]
 | .back c i n=>.tup [.str (Str.ofString "back"),.int c,.tup [.int i,.int n]]
 | .move c e=>.tup [.str (Str.ofString "move"),.int c,.int e]
 | .same c=>.tup [.str (Str.ofString "same"),.int c,.int 0]
def a1T (bs:List Bx):Deed->List Tn
 | .still n=>replicate n .rest
 | .put x ns=>(List.range (szB bs x)).map fun k=>.lay (fstB bs x+k) (ns.getD k 0)
 | .tick x=>[.tick (fstB bs x)]
 | .grow x n=>(a0j bs x).map .take++(List.range (szB bs x)).map fun k=>.back (fstB bs x+k) k n
 | .copy x y=>(List.range (szB bs x)).map fun k=>.move (fstB bs x+k) (fstB bs y+k)
 | .anew x y t=>[.take (fstB bs t)]++(a0j bs y).map .take++[.same (fstB bs t)]++(List.range (szB bs x)).map fun k=>.back (fstB bs x+k) (k+1) 0
 | _=>[.rest]
theorem k1_t {a:Str} {ds:List D} {u v:MC} {ρ:MEnv} {o:Option Out} (h:ρ[1]?=some (some (.sh (.tup (.str a::ds))))) (h2:u ρ=o):sIf (eBin dEq (eBin dIx (eVar 1) (eC (.int 0))) (eC (.str a))) u v ρ=o:=
 if_t (a0c (a0c (a1M h) rfl a0U) rfl (a2l rfl)) h2
theorem k1_f {a b:Str} {ds:List D} {u:MC} {ρ:MEnv} (h:ρ[1]?=some (some (.sh (.tup (.str b::ds))))) (e:b≠a):sIf (eBin dEq (eBin dIx (eVar 1) (eC (.int 0))) (eC (.str a))) u a0F ρ=some (.next ρ):=
 if_f (a0c (a0c (a1M h) rfl a0U) rfl (a0G e)) rfl
theorem b45 (bs:List Bx) (x:Nat):dLen (.lst ((a0j bs x).map intD))=okI (szB bs x:Nat):=by rw [a3t,length_map,a0N]
theorem own_e {bs:List Bx} (hb:a1A bs) {x:Nat} (hx:x<bs.length) {ρ:MEnv} (h2:ρ[2]?=some (some (.sh (.lst ((a0j bs x).map intD))))) {elt:ME} (f:Nat->Tn) (he:∀k,k<szB bs x->elt ((a1q [6] ρ).set 6 (some (.sh (.int k))))=okD (f k).d):
  a1p [6] (a08 (a0r (f1 dLen) [(eAny 2)])) (a09 6) a2o elt ρ=okL (((List.range (szB bs x)).map f).map Tn.d):=by
 have h12:=a2q hb hx
 rw [map_map]
 exact a1S (List.range (szB bs x)) intD _ (by rw [←rng0];exact a2f (lenB (a4d h2) (b45 bs x)) (a1d (by omega))) (by rw [length_range];exact le_trans (by omega:szB bs x<=2) (by decide)) fun k hk=>⟨_,rfl,_,he k (mem_range.mp hk),rfl⟩
theorem take_e {A:List Nat} (hA:A.length<=100) {ρ:MEnv} {it:MI} (hi:it ρ=some (.ok (A.map intD))) (hv:7<(a1q [7] ρ).length):a1p [7] it (a09 7) a2o (eTup [(eC (.str (Str.ofString "take"))),(eVar 7),(eC (.int 0))]) ρ=okL ((A.map Tn.take).map Tn.d):=by
 rw [map_map]
 exact a1S A intD _ hi (le_trans hA (by decide)) fun b _=>⟨_,rfl,_,a2n rfl (a1M (getElem?_set_self hv)) rfl rfl,rfl⟩
theorem vals_ix {ns:List Int} {k:Nat} (h:k<ns.length):dIx (.tup (ns.map D.int)) (.int k)=okI (ns.getD k 0):=a7w h
theorem succN (n:Nat):dAdd (.int n) (.int 1)=okI ((n+1:Nat):Int):=rfl
set_option maxHeartbeats 4000000 in
theorem b0f {bs:List Bx} (hb:a1A bs) {dd:Deed} (ok:dd.Ok bs):a4P [a0L bs,dd.d]=okL ((a1T bs dd).map Tn.d):=by
 cases dd with
 | still n=>
  have hn:n<=9:=ok.2
  have hc:a1p [6] (a08 (eBin dIx (eVar 1) (eC (.int 1)))) (a09 6) a2o (eTup [(eC (.str (Str.ofString "rest"))),(eC (.int 0)),(eC (.int 0))]) [some (.sh (a0L bs)),some (.sh (Deed.still n).d),none,none,none,none,none,none]=okL ((List.range n).map fun _=>Tn.rest.d):=
   a1S (List.range n) intD _ (by rw [←rng0];exact a2f (a0c rfl rfl a0Z) (a1d (by omega))) (by rw [length_range];exact le_trans hn (by decide)) fun k _=>⟨_,rfl,_,a2n rfl rfl rfl rfl,rfl⟩
  have e:(List.range n).map (fun _=>Tn.rest.d)=(a1T bs (.still n)).map Tn.d:=by
   show _=(replicate n Tn.rest).map Tn.d
   rw [List.map_replicate,List.map_const',length_range]
  rw [e] at hc
  exact a0x rfl (a0E (k1_t rfl (a0T hc)))
 | put x ns=>
  have hx:x<bs.length:=ok.1
  have hn:ns.length=szB bs x:=ok.2.1
  exact a0x rfl (a0b (k1_f rfl (by decide)) (a0b (a0p (a0M rfl (a0c rfl rfl a0Z) (a0X hb hx))) (a0E (k1_t rfl (a1o (a0T (own_e hb hx rfl (fun k=>.lay (fstB bs x+k) (ns.getD k 0)) fun k hk=>a2n rfl (a0c rfl rfl (a4L hk)) (a0c (a0c rfl rfl a2R) rfl (vals_ix (by omega))) rfl)))))))
 | tick x=>
  have hx:x<bs.length:=ok.1
  have h0:dIx (.lst ((a0j bs x).map intD)) (.int 0)=okI (fstB bs x:Nat):=a3H (n:=0) (by rw [getElem?_map,b2o hb hx];rfl)
  exact a0x rfl (a0b (k1_f rfl (by decide)) (a0b (a0p (a0M rfl (a0c rfl rfl a0Z) (a0X hb hx))) (a0b (k1_f rfl (by decide)) (a0E (k1_t rfl (a1o (a0T (a02 (a2n rfl (a0c rfl rfl h0) rfl rfl) rfl))))))))
 | non x=>
  exact a0x rfl (a0b (k1_f rfl (by decide)) (a0b (a0p (a0M rfl (a0c rfl rfl a0Z) (a0X hb ok))) (a0b (k1_f rfl (by decide)) (a0b (k1_f rfl (by decide)) (a0b (k1_f rfl (by decide)) (a0b (k1_f rfl (by decide)) (a0b (k1_f rfl (by decide)) (a0T (a02 (a2n rfl rfl rfl rfl) rfl)))))))))
 | iz x y n=>
  exact a0x rfl (a0b (k1_f rfl (by decide)) (a0b (a0p (a0M rfl (a0c rfl rfl a0Z) (a0X hb ok.1))) (a0b (k1_f rfl (by decide)) (a0b (k1_f rfl (by decide)) (a0b (k1_f rfl (by decide)) (a0b (k1_f rfl (by decide)) (a0b (k1_f rfl (by decide)) (a0T (a02 (a2n rfl rfl rfl rfl) rfl)))))))))
 | most x y n=>
  exact a0x rfl (a0b (k1_f rfl (by decide)) (a0b (a0p (a0M rfl (a0c rfl rfl a0Z) (a0X hb ok.1))) (a0b (k1_f rfl (by decide)) (a0b (k1_f rfl (by decide)) (a0b (k1_f rfl (by decide)) (a0b (k1_f rfl (by decide)) (a0b (k1_f rfl (by decide)) (a0T (a02 (a2n rfl rfl rfl rfl) rfl)))))))))
 | grow x n=>
  have hx:x<bs.length:=ok.1
  have h2:=clen hb hx
  have h12:=a2q hb hx
  have e:dAdd (.lst (((a0j bs x).map Tn.take).map Tn.d)) (.lst (((List.range (szB bs x)).map fun k=>Tn.back (fstB bs x+k) k n).map Tn.d))=okL ((a1T bs (.grow x n)).map Tn.d):=by
   rw [a60 (by rw [length_map,length_map,length_map,length_map,length_range];omega),←map_append];rfl
  exact a0x rfl (a0b (k1_f rfl (by decide)) (a0b (a0p (a0M rfl (a0c rfl rfl a0Z) (a0X hb hx))) (a0b (k1_f rfl (by decide)) (a0b (k1_f rfl (by decide)) (a0E (k1_t rfl (a1o (a0b (a0p (take_e (by omega) (a4i rfl rfl) (by show 7<8;decide))) (a1o (a1o (a0T (a0c rfl (own_e hb hx rfl (fun k=>.back (fstB bs x+k) k n) fun k hk=>a2n rfl (a0c rfl rfl (a4L hk)) (tup2 rfl (a0c rfl rfl a2R)) rfl) e))))))))))))
 | copy x y=>
  have hx:x<bs.length:=ok.1
  have hy:y<bs.length:=ok.2.1
  have hxy:szB bs y=szB bs x:=ok.2.2.2
  exact a0x rfl (a0b (k1_f rfl (by decide)) (a0b (a0p (a0M rfl (a0c rfl rfl a0Z) (a0X hb hx))) (a0b (k1_f rfl (by decide)) (a0b (k1_f rfl (by decide)) (a0b (k1_f rfl (by decide)) (a0E (k1_t rfl (a0b (a0p (a0M rfl (a0c rfl rfl a2R) (a0X hb hy))) (a1o (a1o (a0T (own_e hb hx rfl (fun k=>.move (fstB bs x+k) (fstB bs y+k)) fun k hk=>a2n rfl (a0c rfl rfl (a4L hk)) (a0c rfl rfl (a4L (by omega))) rfl))))))))))))
 | anew x y t=>
  obtain ⟨hx,hy,ht,nxy,nxt,nyt,hxy,ht1⟩:=ok
  have h2:=clen hb hx
  have h3:=clen hb hy
  have h12:=a2q hb hx
  have h0:dIx (.lst ((a0j bs t).map intD)) (.int 0)=okI (fstB bs t:Nat):=a3H (n:=0) (by rw [getElem?_map,b2o hb ht];rfl)
  have e1:dAdd (.lst [(Tn.take (fstB bs t)).d]) (.lst (((a0j bs y).map Tn.take).map Tn.d))=okL (([Tn.take (fstB bs t)]++(a0j bs y).map Tn.take).map Tn.d):=by
   rw [a60 (by rw [length_map,length_map,length_singleton];omega)];rfl
  have e2:dAdd (.lst (([Tn.take (fstB bs t)]++(a0j bs y).map Tn.take).map Tn.d)) (.lst [(Tn.same (fstB bs t)).d])=okL (([Tn.take (fstB bs t)]++(a0j bs y).map Tn.take++[Tn.same (fstB bs t)]).map Tn.d):=by
   rw [a60 (by rw [length_map,length_append,length_map,length_singleton,length_singleton];omega),map_append (l₂:=[Tn.same (fstB bs t)])];rfl
  have e3:dAdd (.lst (([Tn.take (fstB bs t)]++(a0j bs y).map Tn.take++[Tn.same (fstB bs t)]).map Tn.d)) (.lst (((List.range (szB bs x)).map fun k=>Tn.back (fstB bs x+k) (k+1) 0).map Tn.d))=okL ((a1T bs (.anew x y t)).map Tn.d):=by
   rw [a60 (by simp only [length_map,length_append,length_singleton,length_range];omega),←map_append];rfl
  have et:∀(s:Str) (c:Nat) (ρ:MEnv),ρ[5]?=some (some (.sh (.int c)))->eLst [(eTup [(eC (.str s)),(eVar 5),(eC (.int 0))])] ρ=okL [.tup [.str s,.int c,.int 0]]:=fun s c ρ h=>a02 (a2n rfl (a1M h) rfl rfl) rfl
  exact a0x rfl (a0b (k1_f rfl (by decide)) (a0b (a0p (a0M rfl (a0c rfl rfl a0Z) (a0X hb hx))) (a0b (k1_f rfl (by decide)) (a0b (k1_f rfl (by decide)) (a0b (k1_f rfl (by decide)) (a0b (k1_f rfl (by decide)) (a0E (k1_t rfl (a0b (a0p (a0c (a0M rfl (a0c rfl rfl b1q) (a0X hb ht)) rfl h0)) (a0b (a0p (a0c (et _ _ _ rfl) (take_e (by omega) (a4i (a0M rfl (a0c rfl rfl a2R) (a0X hb hy)) rfl) (by show 7<8;decide)) e1)) (a1o (a1o (a0T (a0c (a0c rfl (et _ _ _ rfl) e2) (own_e hb hx rfl (fun k=>.back (fstB bs x+k) (k+1) 0) fun k hk=>a2n rfl (a0c rfl rfl (a4L hk)) (tup2 (a0c rfl rfl (succN k)) rfl) rfl) e3))))))))))))))
def b0n:Tn->List Int->List Int->List Int×List Int
 | .lay c v,cs,hand=>(cs.set c v,hand)
 | .tick c,cs,hand=>(cs.set c (cs.getD c 0+1),hand)
 | .take c,cs,hand=>(cs,hand++[cs.getD c 0])
 | .back c i n,cs,hand=>(cs.set c (hand.getD i 0+n),hand)
 | .move c e,cs,hand=>(cs.set c (cs.getD e 0),hand)
 | _,cs,hand=>(cs,hand)
def TnOk (n hl:Nat):Tn->Prop
 | .lay c _=>c<n
 | .tick c=>c<n
 | .take c=>c<n
 | .back c i _=>c<n/\i<hl
 | .move c e=>c<n/\e<n
 | .same c=>c<n/\0<hl
 | .rest=>True
theorem done_len (t:Tn) (cs hand:List Int):(b0n t cs hand).1.length=cs.length:=by cases t <;> simp [b0n]
theorem k0_t {a:Str} {ds:List D} {u v:MC} {ρ:MEnv} {o:Option Out} (h:ρ[0]?=some (some (.sh (.tup (.str a::ds))))) (h2:u ρ=o):sIf (eBin dEq (eBin dIx (eVar 0) (eC (.int 0))) (eC (.str a))) u v ρ=o:=
 if_t (a0c (a0c (a1M h) rfl a0U) rfl (a2l rfl)) h2
theorem k0_f {a b:Str} {ds:List D} {u:MC} {ρ:MEnv} (h:ρ[0]?=some (some (.sh (.tup (.str b::ds))))) (e:b≠a):sIf (eBin dEq (eBin dIx (eVar 0) (eC (.int 0))) (eC (.str a))) u a0F ρ=some (.next ρ):=
 if_f (a0c (a0c (a1M h) rfl a0U) rfl (a0G e)) rfl
theorem set_map {vs:List Int} {c:Nat} {v:Int}:(vs.map D.int).set c (.int v)=(vs.set c v).map D.int:=by rw [List.map_set]
theorem b14 {vs:List Int} {c:Nat} (h:c<vs.length):dIx (.lst (vs.map D.int)) (.int c)=okI (vs.getD c 0):=a7w h
theorem put_e {t:D} {cs hand:List Int} {c:Nat} {v:Int} {e1:ME} (h:c<cs.length) (he:e1 [some (.sh t),some (.own (.lst (cs.map D.int))),some (.sh (.tup (hand.map D.int))),some (.sh (.int c))]=okI v):
  a4h 1 (eVar 3) e1 [some (.sh t),some (.own (.lst (cs.map D.int))),some (.sh (.tup (hand.map D.int))),some (.sh (.int c))]=some (.next [some (.sh t),some (.own (.lst ((cs.set c v).map D.int))),some (.sh (.tup (hand.map D.int))),some (.sh (.int c))]):=by
 rw [b4c (j:=0) (k:=c) he rfl rfl (by rw [length_map];exact h),←set_map]
 rfl
theorem look_e {t:D} {cs hand:List Int} {c k:Nat} {e:ME} (h:k<cs.length) (he:e [some (.sh t),some (.own (.lst (cs.map D.int))),some (.sh (.tup (hand.map D.int))),some (.sh (.int c))]=okI k):
  a0r (f2 dIx) [(eAny 1),e] [some (.sh t),some (.own (.lst (cs.map D.int))),some (.sh (.tup (hand.map D.int))),some (.sh (.int c))]=okI (cs.getD k 0):=callB_e (a0M (F:=f2 dIx) (a4d rfl) he (b14 h)) rfl
theorem a9q {t:Tn} {cs hand:List Int} (h:TnOk cs.length hand.length t) (hh:hand.length<=1000):a2T [t.d,.tup (cs.map D.int),.tup (hand.map D.int)]=okD (.tup [.tup ((b0n t cs hand).1.map D.int),.tup ((b0n t cs hand).2.map D.int)]):=by
 have lo:∀(d:D) (ws hs:List Int) (a:Option S),(sDem 1 (sRet (eTup [(a0l (f1 a3F) [(eVar 1)]),(eVar 2)]))) [some (.sh d),some (.own (.lst (ws.map D.int))),some (.sh (.tup (hs.map D.int))),a]=some (.ret (.sh (.tup [.tup (ws.map D.int),.tup (hs.map D.int)]))):=fun d ws hs a=>a1o (a0T (tup2 (s1:=.sh (.tup (ws.map D.int))) (s2:=.sh (.tup (hs.map D.int))) (a02 rfl rfl) rfl))
 have ls:∀(d:D) (ws hs:List Int) (a:Option S),(sDem 1 (sRet (eTup [(a0l (f1 a3F) [(eVar 1)]),(eVar 2)]))) [some (.sh d),some (.sh (.lst (ws.map D.int))),some (.sh (.tup (hs.map D.int))),a]=some (.ret (.sh (.tup [.tup (ws.map D.int),.tup (hs.map D.int)]))):=fun d ws hs a=>a1o (a0T (tup2 (s1:=.sh (.tup (ws.map D.int))) (s2:=.sh (.tup (hs.map D.int))) (a02 rfl rfl) rfl))
 cases t with
 | rest=>exact a0x rfl (a1o (a0b (a0p (a02 rfl rfl)) (a0b (a0p (a0c rfl rfl a0Z)) (a0b (k0_f rfl (by decide)) (a0b (k0_f rfl (by decide)) (a0b (k0_f rfl (by decide)) (a0b (k0_f rfl (by decide)) (a0b (k0_f rfl (by decide)) (lo _ cs hand _)))))))))
 | same c=>exact a0x rfl (a1o (a0b (a0p (a02 rfl rfl)) (a0b (a0p (a0c rfl rfl a0Z)) (a0b (k0_f rfl (by decide)) (a0b (k0_f rfl (by decide)) (a0b (k0_f rfl (by decide)) (a0b (k0_f rfl (by decide)) (a0b (k0_f rfl (by decide)) (lo _ cs hand _)))))))))
 | lay c v=>exact a0x rfl (a1o (a0b (a0p (a02 rfl rfl)) (a0b (a0p (a0c rfl rfl a0Z)) (a0b (k0_t rfl (put_e (v:=v) h (a0c rfl rfl a2R))) (a0b (k0_f rfl (by decide)) (a0b (k0_f rfl (by decide)) (a0b (k0_f rfl (by decide)) (a0b (k0_f rfl (by decide)) (lo _ _ hand _)))))))))
 | tick c=>exact a0x rfl (a1o (a0b (a0p (a02 rfl rfl)) (a0b (a0p (a0c rfl rfl a0Z)) (a0b (k0_f rfl (by decide)) (a0b (k0_t rfl (put_e (v:=cs.getD c 0+1) h (a0c (look_e h rfl) rfl rfl))) (a0b (k0_f rfl (by decide)) (a0b (k0_f rfl (by decide)) (a0b (k0_f rfl (by decide)) (lo _ _ hand _)))))))))
 | move c e=>exact a0x rfl (a1o (a0b (a0p (a02 rfl rfl)) (a0b (a0p (a0c rfl rfl a0Z)) (a0b (k0_f rfl (by decide)) (a0b (k0_f rfl (by decide)) (a0b (k0_t rfl (put_e (v:=cs.getD e 0) h.1 (look_e h.2 (a0c rfl rfl a2R)))) (a0b (k0_f rfl (by decide)) (a0b (k0_f rfl (by decide)) (lo _ _ hand _)))))))))
 | take c=>
  have e:dAdd (.tup (hand.map D.int)) (.tup [.int (cs.getD c 0)])=okD (.tup ((hand++[cs.getD c 0]).map D.int)):=by
   rw [cat_t (by rw [length_map,length_singleton];omega),map_append];rfl
  exact a0x rfl (a1o (a0b (a0p (a02 rfl rfl)) (a0b (a0p (a0c rfl rfl a0Z)) (a0b (k0_f rfl (by decide)) (a0b (k0_f rfl (by decide)) (a0b (k0_f rfl (by decide)) (a0b (k0_t rfl (a1o (a0p (a0c rfl (a02 (a0c rfl rfl (b14 h)) rfl) e)))) (a0b (k0_f rfl (by decide)) (ls _ cs _ _)))))))))
 | back c i n=>exact a0x rfl (a1o (a0b (a0p (a02 rfl rfl)) (a0b (a0p (a0c rfl rfl a0Z)) (a0b (k0_f rfl (by decide)) (a0b (k0_f rfl (by decide)) (a0b (k0_f rfl (by decide)) (a0b (k0_f rfl (by decide)) (a0b (k0_t rfl (put_e (v:=hand.getD i 0+n) h.1 (a0c (a0c rfl (a0c (a0c rfl rfl a2R) rfl a0U) (a7w h.2)) (a0c (a0c rfl rfl a2R) rfl a0Z) rfl))) (lo _ _ hand _)))))))))
def HandN (bs:List Bx) (dd:Deed) (turn:Nat) (hand:List Int):Prop:=match dd with
 | .grow x _=>hand.length=min turn (szB bs x)
 | .anew _ y _=>hand.length=min turn (szB bs y+1)
 | _=>True
theorem b3R {bs:List Bx} (hb:a1A bs) {dd:Deed} (ok:dd.Ok bs):0<(a1T bs dd).length:=by
 cases dd with
 | still n=>show 0<(replicate n _).length;rw [length_replicate];exact ok.1
 | put x ns=>have:=a2q hb ok.1;show 0<((List.range _).map _).length;rw [length_map,length_range];omega
 | copy x y=>have:=a2q hb ok.1;show 0<((List.range _).map _).length;rw [length_map,length_range];omega
 | tick x=>exact Nat.zero_lt_one
 | grow x n=>have:=a2q hb ok.1;show 0<List.length (_++_);rw [length_append,length_map,a0N];omega
 | anew x y t=>show 0<List.length ([_]++_++_++_);simp only [length_append,length_singleton];omega
 | non x=>exact Nat.zero_lt_one
 | iz x y n=>exact Nat.zero_lt_one
 | most x y n=>exact Nat.zero_lt_one
theorem hand0 (bs:List Bx) (dd:Deed):HandN bs dd 0 []:=by
 cases dd <;> first|trivial|(show 0=min 0 _;omega)
theorem tn_ok {bs:List Bx} (hb:a1A bs) {dd:Deed} (ok:dd.Ok bs) {turn:Nat} {hand:List Int} (h:HandN bs dd turn hand) {t:Tn} (ht:(a1T bs dd)[turn]?=some t) (cs:List Int) (hh:hand.length<=100):
  TnOk (totB bs) hand.length t/\(b0n t cs hand).2.length<=100/\(turn+1<(a1T bs dd).length->HandN bs dd (turn+1) (b0n t cs hand).2):=by
 have lt:turn<(a1T bs dd).length:=(List.getElem?_eq_some_iff.mp ht).1
 cases dd with
 | still n=>
  have:t=.rest:=by
   have:(replicate n Tn.rest)[turn]?=some t:=ht
   rw [getElem?_replicate] at this;split at this <;> cases this;rfl
  subst this;exact ⟨trivial,hh,fun _=>trivial⟩
 | non x=>
  have:t=.rest:=by
   have hm:=mem_of_getElem? ht;exact mem_singleton.mp hm
  subst this;exact ⟨trivial,hh,fun _=>trivial⟩
 | iz x y n=>
  have:t=.rest:=by
   have hm:=mem_of_getElem? ht;exact mem_singleton.mp hm
  subst this;exact ⟨trivial,hh,fun _=>trivial⟩
 | most x y n=>
  have:t=.rest:=by
   have hm:=mem_of_getElem? ht;exact mem_singleton.mp hm
  subst this;exact ⟨trivial,hh,fun _=>trivial⟩
 | tick x=>
  have:t=.tick (fstB bs x):=by
   have hm:=mem_of_getElem? ht;exact mem_singleton.mp hm
  subst this
  have hf:=a2k ok.1
  have h1:szB bs x=1:=ok.2
  exact ⟨by show fstB bs x<_;omega,hh,fun _=>trivial⟩
 | put x ns=>
  have hm:=mem_of_getElem? ht
  obtain ⟨k,hk,rfl⟩:=mem_map.mp hm
  have:=mem_range.mp hk
  have hf:=a2k ok.1
  exact ⟨by show fstB bs x+k<_;omega,hh,fun _=>trivial⟩
 | copy x y=>
  have hm:=mem_of_getElem? ht
  obtain ⟨k,hk,rfl⟩:=mem_map.mp hm
  have:=mem_range.mp hk
  have hf:=a2k ok.1
  have hg:=a2k ok.2.1
  have hxy:=ok.2.2.2
  exact ⟨⟨by omega,by omega⟩,hh,fun _=>trivial⟩
 | grow x n=>
  have hf:=a2k ok.1
  have h12:=a2q hb ok.1
  have h:hand.length=min turn (szB bs x):=h
  have hl:(a1T bs (.grow x n)).length=szB bs x+szB bs x:=by show List.length (_++_)=_;rw [length_append,length_map,a0N,length_map,length_range]
  have ht:(((a0j bs x).map Tn.take)++(List.range (szB bs x)).map fun k=>Tn.back (fstB bs x+k) k n)[turn]?=some t:=ht
  by_cases c:turn<szB bs x
  ·rw [getElem?_append_left (by rw [length_map,a0N];exact c),getElem?_map,a7G c] at ht
   cases ht
   refine ⟨by show fstB bs x+turn<_;omega,by show (hand++[_]).length<=100;rw [length_append,length_singleton];omega,fun _=>?_⟩
   show (hand++[_]).length=min (turn+1) (szB bs x)
   rw [length_append,length_singleton];omega
  ·rw [getElem?_append_right (by rw [length_map,a0N];omega),length_map,a0N,getElem?_map,getElem?_range (by omega)] at ht
   cases ht
   refine ⟨⟨by omega,by omega⟩,hh,fun _=>?_⟩
   show hand.length=min (turn+1) (szB bs x)
   omega
 | anew x y tt=>
  obtain ⟨hx,hy,htt,nxy,nxt,nyt,hxy,ht1⟩:=ok
  have hfx:=a2k hx
  have hfy:=a2k hy
  have hft:=a2k htt
  have h12:=a2q hb hx
  have h:hand.length=min turn (szB bs y+1):=h
  have l1:([Tn.take (fstB bs tt)]++(a0j bs y).map Tn.take).length=szB bs y+1:=by rw [length_append,length_map,a0N,length_singleton];omega
  have l2:([Tn.take (fstB bs tt)]++(a0j bs y).map Tn.take++[Tn.same (fstB bs tt)]).length=szB bs y+2:=by rw [length_append,l1,length_singleton]
  have hl:(a1T bs (.anew x y tt)).length=szB bs y+2+szB bs x:=by show List.length (_++_)=_;rw [length_append,l2,length_map,length_range]
  have ht:([Tn.take (fstB bs tt)]++(a0j bs y).map Tn.take++[Tn.same (fstB bs tt)]++(List.range (szB bs x)).map fun k=>Tn.back (fstB bs x+k) (k+1) 0)[turn]?=some t:=ht
  by_cases c:turn<szB bs y+1
  ·rw [getElem?_append_left (by omega),getElem?_append_left (by omega)] at ht
   have:∃c0,c0<totB bs/\t=.take c0:=by
    have hm:=mem_of_getElem? ht
    rcases mem_append.mp hm with z|z
    ·exact ⟨_,by omega,mem_singleton.mp z⟩
    ·obtain ⟨c0,hc0,rfl⟩:=mem_map.mp z
     exact ⟨c0,a9f hy hc0,rfl⟩
   obtain ⟨c0,h0,rfl⟩:=this
   refine ⟨h0,by show (hand++[_]).length<=100;rw [length_append,length_singleton];omega,fun _=>?_⟩
   show (hand++[_]).length=min (turn+1) (szB bs y+1)
   rw [length_append,length_singleton];omega
  ·by_cases c2:turn=szB bs y+1
   ·rw [getElem?_append_left (by omega),getElem?_append_right (by omega),l1,c2,Nat.sub_self] at ht
    cases ht
    refine ⟨⟨by omega,by omega⟩,hh,fun _=>?_⟩
    show hand.length=min (turn+1) (szB bs y+1)
    omega
   ·rw [getElem?_append_right (by omega),l2,getElem?_map,getElem?_range (by omega)] at ht
    cases ht
    refine ⟨⟨by omega,by omega⟩,hh,fun _=>?_⟩
    show hand.length=min (turn+1) (szB bs y+1)
    omega
theorem tn_anew {bs:List Bx} {x y t:Nat}:a1T bs (.anew x y t)=(.take (fstB bs t)::(a0j bs y).map .take)++(.same (fstB bs t)::(List.range (szB bs x)).map fun k=>.back (fstB bs x+k) (k+1) 0):=by
 show [Tn.take (fstB bs t)]++(a0j bs y).map .take++[.same (fstB bs t)]++_=_
 simp
theorem tn_anewL {bs:List Bx} {y t:Nat}:(Tn.take (fstB bs t)::(a0j bs y).map .take).length=szB bs y+1:=by rw [length_cons,length_map,a0N]
theorem b2u {bs:List Bx} (dd:Deed):(a1T bs dd).length=(a3X bs dd).length:=by
 rw [b1X]
 cases dd with
 | still n=>show (replicate n _).length=n;rw [length_replicate]
 | put x ns=>show ((List.range _).map _).length=_;rw [length_map,length_range]
 | copy x y=>show ((List.range _).map _).length=_;rw [length_map,length_range]
 | tick x=>rfl
 | non x=>rfl
 | iz x y n=>rfl
 | most x y n=>rfl
 | grow x n=>show (((a0j bs x).map _)++_).length=2 * szB bs x;rw [length_append,length_map,a0N,length_map,length_range];omega
 | anew x y t=>rw [tn_anew,length_append,tn_anewL,length_cons,length_map,length_range];show _=szB bs y+2+szB bs x;omega
structure FrOk (bs:List Bx) (rs:List Rw) (f:Fr):Prop where
 at':PlaceOk rs f
 hl:f.hand.length<=100
 turn:∀q,(a0V rs f.row).pl[f.place]?=some q->f.turn<(a1T bs q.1).length/\HandN bs q.1 f.turn f.hand
 lastT:f.place=(a0V rs f.row).pl.length->f.turn=0
theorem FrOk.row {bs:List Bx} {rs:List Rw} {f:Fr} (h:FrOk bs rs f):f.row<rs.length:=h.at'.1
theorem FrOk.place {bs:List Bx} {rs:List Rw} {f:Fr} (h:FrOk bs rs f):f.place<=(a0V rs f.row).pl.length:=h.at'.2
structure WF (bs:List Bx) (rs:List Rw) (p:List Fr) (cs:List Int) (n:Nat):Prop where
 fr:∀f∈p,FrOk bs rs f
 hd:∃b r,p=b::r/\b.row=0
 len:cs.length=totB bs
 most:p.length<=n
theorem fr1 (f:Fr):dIx f.d (.int 1)=okI (f.place:Nat):=a0Z
theorem fr2 (f:Fr):dIx f.d (.int 2)=okI (f.turn:Nat):=a2R
theorem fr3 (f:Fr):dIx f.d (.int 3)=okD (.tup (f.hand.map D.int)):=b1q
theorem a8b {ds:List D} {d:D}:b0p (.tup (ds++[d])) none (some (-1))=okD (.tup ds):=by
 have e:sIxD (ds++[d]).length (ds++[d]).length (some (-1))=ds.length:=by
  show (if (-1:Int)<0 then ((-1:Int)+((ds++[d]).length:Int)).toNat else min (-1:Int).toNat (ds++[d]).length)=_
  rw [if_pos (by decide),length_append,length_singleton];omega
 show (if (sIxD (ds++[d]).length 0 none=0/\sIxD (ds++[d]).length (ds++[d]).length (some (-1))=(ds++[d]).length) then none else okD (.tup (cutD (ds++[d]) none (some (-1)))))=_
 rw [e,if_neg (by rw [length_append,length_singleton];omega)]
 show okD (.tup (((ds++[d]).drop 0).take (sIxD (ds++[d]).length (ds++[d]).length (some (-1)) - 0)))=_
 rw [e,List.drop_zero,Nat.sub_zero,List.take_left]
theorem a50 {ρ:MEnv} {u:List Fr} {top:Fr} {cs:List Int} (h:ρ[1]?=some (some (.sh (stD (u++[top]) cs)))):a4Z (eBin dIx (eVar 1) (eC (.int 0))) none (some (eC (.int (-1)))) ρ=okD (a1U u):=by
 unfold a4Z
 rw [show eBin dIx (eVar 1) (eC (.int 0)) ρ=okD (a1U (u++[top])) from a0c (a1M h) rfl a0U]
 show b0p (.tup ((u++[top]).map Fr.d)) none (some (-1))=_
 rw [map_append]
 exact a8b
theorem snocF {u:List Fr} (h:u.length<=1000) (f:Fr):dAdd (a1U u) (.tup [f.d])=okD (a1U (u++[f])):=by
 show dAdd (.tup (u.map Fr.d)) _=okD (.tup ((u++[f]).map Fr.d))
 rw [cat_t (by rw [length_map,length_singleton];omega),map_append];rfl
theorem not_same {t:Tn} (h:∀c,t≠.same c) {ρ:MEnv} (h6:ρ[6]?=some (some (.sh t.d))):eBin dEq (eBin dIx (eVar 6) (eC (.int 0))) (eC (.str (Str.ofString "same"))) ρ=okB false:=by
 cases t with
 | same c=>exact absurd rfl (h c)
 | rest=>exact a0c (a0c (a1M h6) rfl a0U) rfl (a0G (by decide))
 | lay c v=>exact a0c (a0c (a1M h6) rfl a0U) rfl (a0G (by decide))
 | tick c=>exact a0c (a0c (a1M h6) rfl a0U) rfl (a0G (by decide))
 | take c=>exact a0c (a0c (a1M h6) rfl a0U) rfl (a0G (by decide))
 | back c i n=>exact a0c (a0c (a1M h6) rfl a0U) rfl (a0G (by decide))
 | move c e=>exact a0c (a0c (a1M h6) rfl a0U) rfl (a0G (by decide))
section
variable {bs:List Bx} {rs:List Rw} {u:List Fr} {top:Fr} {cs:List Int} {n:Nat}
theorem a69 (hb:a1A bs) (hr:∀r∈rs,∀q∈r.pl,q.1.Ok bs) {k pl:Nat} (hk:k<rs.length) (hp:pl<=(a0V rs k).pl.length):FrOk bs rs ⟨k,pl,0,[]⟩:=by
 refine ⟨⟨hk,hp⟩,zero_le _,fun q hq=>⟨b3R hb (hr (a0V rs k) ?_ q (mem_of_getElem? hq)),hand0 bs q.1⟩,fun _=>rfl⟩
 rw [←a5C hk];exact getElem_mem hk
theorem WF.swap (w:WF bs rs (u++[top]) cs n) {f:Fr} {cs':List Int} (hf:FrOk bs rs f) (hrow:f.row=top.row) (hc:cs'.length=cs.length):WF bs rs (u++[f]) cs' n:=by
 refine ⟨fun g hg=>?_,?_,hc.trans w.len,by have:=w.most;rw [length_append,length_singleton] at this ⊢;exact this⟩
 ·rcases mem_append.mp hg with h|h
  ·exact w.fr g (mem_append_left _ h)
  ·rw [mem_singleton.mp h];exact hf
 ·obtain ⟨b,r,e,h0⟩:=w.hd
  cases u with
  | nil=>cases e;exact ⟨f,[],rfl,by rw [hrow];exact h0⟩
  | cons a v=>exact ⟨a,v++[f],rfl,by rw [(List.cons.inj (show a::(v++[top])=b::r from e)).1];exact h0⟩
theorem WF.pop (w:WF bs rs (u++[top]) cs n) (h:0<top.row) {cs':List Int} (hc:cs'.length=cs.length):WF bs rs u cs' n:=by
 refine ⟨fun g hg=>w.fr g (mem_append_left _ hg),?_,hc.trans w.len,by have:=w.most;rw [length_append,length_singleton] at this;omega⟩
 obtain ⟨b,r,e,h0⟩:=w.hd
 cases u with
 | nil=>cases e;omega
 | cons a v=>exact ⟨a,v,rfl,by rw [(List.cons.inj (show a::(v++[top])=b::r from e)).1];exact h0⟩
theorem b2P {ρ:MEnv} (h:ρ[1]?=some (some (.sh (a1U (u++[top]))))):a4Z (eVar 1) none (some (eC (.int (-1)))) ρ=okD (a1U u):=by
 unfold a4Z
 rw [a1M h]
 show b0p (.tup ((u++[top]).map Fr.d)) none (some (-1))=_
 rw [map_append]
 exact a8b
theorem b0G {f:Fr} (h:f.row<rs.length):a3p [a1k bs rs,f.d]=okB (decide (f.place=(a0V rs f.row).pl.length)):=
 a0x rfl (a0T (a0c (a0c rfl rfl (fr1 f)) (lenB (a0M rfl (a0c rfl rfl (fr0 f)) (a7i h)) (a5k _)) (eqN _ _)))
theorem a5I {q:Pl} (h:top.row<rs.length) (hpq:(a0V rs top.row).pl[top.place]?=some q):a1O [a1k bs rs,.int top.row,.int top.place]=okD q.1.d:=
 a0x rfl (a0T (a0c (a0c (a0M rfl rfl (a7i h)) rfl (ix_tup (by rw [getElem?_map,hpq];rfl))) rfl a0U))
end
section
variable {bs:List Bx} {rs:List Rw} {u:List Fr} {top:Fr} {cs:List Int} {n:Nat}
theorem b5U (hb:a1A bs) (hr:∀r∈rs,∀q∈r.pl,q.1.Ok bs) (w:WF bs rs (u++[top]) cs n) (hn:n<=1000):
  a2I [a1k bs rs,stD (u++[top]) cs]=okD .non\/∃p' cs',a2I [a1k bs rs,stD (u++[top]) cs]=okD (stD p' cs')/\WF bs rs p' cs' n:=by
 obtain ⟨⟨hrow,hpl⟩,hhl,hq,_⟩:=w.fr top (by simp)
 have hu:u.length<=1000:=by have:=w.most;rw [length_append,length_singleton] at this;omega
 have hp4:∀{ρ:MEnv},ρ[0]?=some (some (.sh (a1k bs rs)))->ρ[2]?=some (some (.sh top.d))->eBin dIx (eBin dIx (eBin dIx (eVar 0) (eC (.int 1))) (eBin dIx (eVar 2) (eC (.int 0)))) (eC (.int 2)) ρ=okD (.tup ((a0V rs top.row).pl.map plD)):=fun h0 h2=>a0c (a0c (a0c (a1M h0) rfl a0Z) (a0c (a1M h2) rfl (fr0 top)) (a7x hrow)) rfl a2R
 by_cases c:top.place=(a0V rs top.row).pl.length
 ·exact .inl (a0x rfl (a0b (a0p (a0c (a0c rfl rfl a0U) rfl (a3Y u top))) (a0b (a0p (a50 rfl)) (a0b (a0p (hp4 rfl rfl)) (a0E (if_t (a0c (a0c rfl rfl (fr1 top)) (lenB (a4d rfl) (a5k _)) (eq_t (by omega))) rfl))))))
 ·right
  have hlt:top.place<(a0V rs top.row).pl.length:=by omega
  have hpq:(a0V rs top.row).pl[top.place]?=some (a0V rs top.row).pl[top.place]:=getElem?_eq_getElem hlt
  have hok:(a0V rs top.row).pl[top.place].1.Ok bs:=hr (a0V rs top.row) (by rw [←a5C hrow];exact getElem_mem hrow) _ (getElem_mem hlt)
  obtain ⟨ht,hhd⟩:=hq _ hpq
  have ipl:dIx (.tup ((a0V rs top.row).pl.map plD)) (.int (top.place:Nat))=okD (plD (a0V rs top.row).pl[top.place]):=ix_tup (by rw [getElem?_map,hpq];rfl)
  generalize (a0V rs top.row).pl[top.place]=q at hpq hok ht hhd ipl
  have htn:(a1T bs q.1)[top.turn]?=some (a1T bs q.1)[top.turn]:=getElem?_eq_getElem ht
  generalize (a1T bs q.1)[top.turn]=t at htn
  obtain ⟨k1,k2,k3⟩:=tn_ok hb hok hhd htn cs hhl
  have k1':TnOk cs.length top.hand.length t:=by rw [w.len];exact k1
  have hdone:=a9q k1' (by omega)
  have itn:dIx (.lst ((a1T bs q.1).map Tn.d)) (.int (top.turn:Nat))=okD t.d:=a3H (by rw [getElem?_map,htn];rfl)
  have hlen:dLen (.lst ((a1T bs q.1).map Tn.d))=okI ((a1T bs q.1).length:Nat):=by rw [a3t,length_map]
  have hdl:=done_len t cs top.hand
  generalize (b0n t cs top.hand).1=cs' at hdone hdl
  generalize (b0n t cs top.hand).2=hd' at hdone k2 k3
  suffices z:∃p' cs2,a7P [some (.sh (a1k bs rs)),some (.sh (stD (u++[top]) cs)),some (.sh top.d),some (.sh (a1U u)),some (.sh (.tup ((a0V rs top.row).pl.map plD))),some (.sh (.lst ((a1T bs q.1).map Tn.d))),some (.sh t.d),some (.sh (.tup [.tup (cs'.map D.int),.tup (hd'.map D.int)]))]=some (.ret (.sh (stD p' cs2)))/\WF bs rs p' cs2 n by
   obtain ⟨p',cs2,e,wf⟩:=z
   exact ⟨p',cs2,a0x rfl (a0b (a0p (a0c (a0c rfl rfl a0U) rfl (a3Y u top))) (a0b (a0p (a50 rfl)) (a0b (a0p (hp4 rfl rfl)) (a0b (if_f (a0c (a0c rfl rfl (fr1 top)) (lenB (a4d rfl) (a5k _)) (eq_f (by omega))) rfl) (a0b (a0p (a0M (a0c rfl rfl a0U) (a0c (a0c rfl (a0c rfl rfl (fr1 top)) ipl) rfl a0U) (b0f hb hok))) (a1o (a0b (a0p (a0c rfl (a0c rfl rfl (fr2 top)) itn)) (a0b (a0p (a2n rfl (a0c rfl rfl a0Z) (a0c rfl rfl (fr3 top)) hdone)) e)))))))),wf⟩
  have lt_e:∀{ρ:MEnv},ρ[2]?=some (some (.sh top.d))->eBin dAdd (eBin dIx (eVar 2) (eC (.int 2))) (eC (.int 1)) ρ=okI ((top.turn+1:Nat):Int):=fun h=>a0c (a0c (a1M h) rfl (fr2 top)) rfl (succN _)
  have pl_e:∀{ρ:MEnv},ρ[2]?=some (some (.sh top.d))->eBin dAdd (eBin dIx (eVar 2) (eC (.int 1))) (eC (.int 1)) ρ=okI ((top.place+1:Nat):Int):=fun h=>a0c (a0c (a1M h) rfl (fr1 top)) rfl (succN _)
  have late:∃p' cs2,a7O [some (.sh (a1k bs rs)),some (.sh (stD (u++[top]) cs)),some (.sh top.d),some (.sh (a1U u)),some (.sh (.tup ((a0V rs top.row).pl.map plD))),some (.sh (.lst ((a1T bs q.1).map Tn.d))),some (.sh t.d),some (.sh (.tup [.tup (cs'.map D.int),.tup (hd'.map D.int)]))]=some (.ret (.sh (stD p' cs2)))/\WF bs rs p' cs2 n:=by
   by_cases c1:top.turn+1<(a1T bs q.1).length
   ·refine ⟨u++[⟨top.row,top.place,top.turn+1,hd'⟩],cs',a0E (if_t (a0c (lt_e rfl) (lenB (a4d rfl) hlen) (lt_t (by omega))) (a0T (tup2 (s1:=.sh (a1U (u++[⟨top.row,top.place,top.turn+1,hd'⟩]))) (s2:=.sh (.tup (cs'.map D.int))) (a0c rfl (a02 (a77 (a0c rfl rfl (fr0 top)) (a0c rfl rfl (fr1 top)) (lt_e rfl) (a0c rfl rfl a0Z) rfl) rfl) (snocF hu ⟨top.row,top.place,top.turn+1,hd'⟩)) (a0c rfl rfl a0U)))),w.swap ⟨⟨hrow,hpl⟩,k2,fun q' hq'=>?_,fun z=>absurd (show top.place=_ from z) (by omega)⟩ rfl hdl⟩
    rw [hpq] at hq'
    cases hq'
    exact ⟨c1,k3 c1⟩
   ·by_cases c2:0<top.row/\top.place+1=(a0V rs top.row).pl.length
    ·exact ⟨u,cs',a0b (if_f (a0c (lt_e rfl) (lenB (a4d rfl) hlen) (lt_f (by omega))) rfl) (a0E (if_t (a1Y (a0c (a0c rfl rfl (fr0 top)) rfl (gt_t (by omega))) (a0c (pl_e rfl) (lenB (a4d rfl) (a5k _)) (eq_t (by omega)))) (a0T (tup2 (s1:=.sh (a1U u)) (s2:=.sh (.tup (cs'.map D.int))) rfl (a0c rfl rfl a0U))))),w.pop c2.1 hdl⟩
    ·have hf:eAnd (eBin dGt (eBin dIx (eVar 2) (eC (.int 0))) (eC (.int 0))) (eBin dEq (eBin dAdd (eBin dIx (eVar 2) (eC (.int 1))) (eC (.int 1))) (a0r (f1 dLen) [(eAny 4)])) [some (.sh (a1k bs rs)),some (.sh (stD (u++[top]) cs)),some (.sh top.d),some (.sh (a1U u)),some (.sh (.tup ((a0V rs top.row).pl.map plD))),some (.sh (.lst ((a1T bs q.1).map Tn.d))),some (.sh t.d),some (.sh (.tup [.tup (cs'.map D.int),.tup (hd'.map D.int)]))]=okB false:=by
      by_cases c3:0<top.row
      ·exact a1Y (a0c (a0c rfl rfl (fr0 top)) rfl (gt_t (by omega))) (a0c (pl_e rfl) (lenB (a4d rfl) (a5k _)) (eq_f (by omega)))
      ·exact a46 (a0c (a0c rfl rfl (fr0 top)) rfl (gt_f (by omega)))
     exact ⟨u++[⟨top.row,top.place+1,0,[]⟩],cs',a0b (if_f (a0c (lt_e rfl) (lenB (a4d rfl) hlen) (lt_f (by omega))) rfl) (a0b (if_f hf rfl) (a0T (tup2 (s1:=.sh (a1U (u++[⟨top.row,top.place+1,0,[]⟩]))) (s2:=.sh (.tup (cs'.map D.int))) (a0c rfl (a02 (a77 (a0c rfl rfl (fr0 top)) (pl_e rfl) rfl rfl rfl) rfl) (snocF hu ⟨top.row,top.place+1,0,[]⟩)) (a0c rfl rfl a0U)))),w.swap (a69 hb hr hrow (by omega)) rfl hdl⟩
  by_cases cs0:∃c,t=.same c
  ·obtain ⟨sc,rfl⟩:=cs0
   have i1:dIx (.tup (cs.map D.int)) (.int (sc:Nat))=okI (cs.getD sc 0):=a7w k1'.1
   have i2:dIx (.tup (top.hand.map D.int)) (.int 0)=okI (top.hand.getD 0 0):=a7w (c:=0) k1'.2
   by_cases c4:cs.getD sc 0=top.hand.getD 0 0
   ·obtain ⟨p',cs2,e,wf⟩:=late
    exact ⟨p',cs2,a0b (if_f (a1Y (a0c (a0c rfl rfl a0U) rfl (a2l rfl)) (a0c (a0c (a0c rfl rfl a0Z) (a0c rfl rfl a0Z) i1) (a0c (a0c rfl rfl (fr3 top)) rfl i2) (ne_f c4))) rfl) e,wf⟩
   ·exact ⟨u++[⟨top.row,top.place,0,[]⟩],cs',a0E (if_t (a1Y (a0c (a0c rfl rfl a0U) rfl (a2l rfl)) (a0c (a0c (a0c rfl rfl a0Z) (a0c rfl rfl a0Z) i1) (a0c (a0c rfl rfl (fr3 top)) rfl i2) (ne_t c4))) (a0T (tup2 (s1:=.sh (a1U (u++[⟨top.row,top.place,0,[]⟩]))) (s2:=.sh (.tup (cs'.map D.int))) (a0c rfl (a02 (a77 (a0c rfl rfl (fr0 top)) (a0c rfl rfl (fr1 top)) rfl rfl rfl) rfl) (snocF hu ⟨top.row,top.place,0,[]⟩)) (a0c rfl rfl a0U)))),w.swap (a69 hb hr hrow hpl) rfl hdl⟩
  ·obtain ⟨p',cs2,e,wf⟩:=late
   exact ⟨p',cs2,a0b (if_f (a46 (not_same (fun c h=>cs0 ⟨c,h⟩) rfl)) rfl) e,wf⟩
end
def a2Y (bs:List Bx) (dd:Deed) (turn:Nat):List Nat:=match dd with
 | .put x _=>[x]|.tick x=>[x]|.grow x _=>[x]
 | .copy x y=>[x,y]|.iz x y _=>[x,y]|.most x y _=>[x,y]
 | .still _=>[]|.non _=>[]
 | .anew x y t=>if turn=0\/turn=szB bs x+1 then [t] else if turn<=szB bs x then [y] else [x]
theorem a5h {bs:List Bx} {x c:Nat}:c∈a0j bs x↔fstB bs x<=c/\c<fstB bs x+szB bs x:=by
 unfold a0j
 rw [mem_map]
 constructor
 ·rintro ⟨k,hk,rfl⟩
  have:=mem_range.mp hk
  omega
 ·rintro ⟨h1,h2⟩
  exact ⟨c - fstB bs x,mem_range.mpr (by omega),by omega⟩
theorem a6z {bs:List Bx} {x z c:Nat} (h1:c∈a0j bs x) (h2:c∈a0j bs z):z=x:=by
 rw [a5h] at h1 h2
 rcases Nat.lt_trichotomy x z with h|h|h
 ·have:=b5q (bs:=bs) h;omega
 ·exact h.symm
 ·have:=b5q (bs:=bs) h;omega
theorem b1e {bs:List Bx} {x y c:Nat}:c∈srt bs x y↔c∈a0j bs x\/c∈a0j bs y:=by
 unfold srt
 rw [mem_map]
 constructor
 ·rintro ⟨i,hi,rfl⟩
  have:=sortD_mem hi
  rw [mem_map] at this
  obtain ⟨n,hn,rfl⟩:=this
  rw [toNat_natCast]
  exact mem_append.mp hn
 ·intro h
  exact ⟨(c:Int),(L3.sortD_mem _ _).mpr (mem_map.mpr ⟨c,mem_append.mpr h,rfl⟩),toNat_natCast c⟩
theorem b17 (k:Int):∀l:List Int,(insD k l).length<=l.length+1
 | []=>by unfold insD;simp
 | a::l=>by
  unfold insD
  split
  ·simp
  ·split
   ·simp
   ·have:=b17 k l;simp;omega
theorem a9u:∀l:List Int,(a5W l).length<=l.length
 | []=>by unfold a5W;simp
 | a::l=>by
  show (insD a (a5W l)).length<=l.length+1
  have h1:=b17 a (a5W l)
  have h2:=a9u l
  omega
theorem srt_len {bs:List Bx} (hb:a1A bs) {x y:Nat} (hx:x<bs.length) (hy:y<bs.length):(srt bs x y).length+0<=100:=by
 unfold srt
 have h:=a9u ((a0j bs x++a0j bs y).map fun n:Nat=>(n:Int))
 rw [length_map,length_append] at h
 have h1:=clen hb hx
 have h2:=clen hb hy
 rw [length_map]
 omega
theorem b2z {bs:List Bx} (hb:a1A bs) {dd:Deed} (ok:dd.Ok bs) {turn:Nat} (ht:turn<(a3X bs dd).length):∃p:Stp,(a3X bs dd)[turn]?=some p/\p.1.length+p.2.length<=100/\∀z,(∃c∈a0j bs z,c∈p.1++p.2)↔z∈a2Y bs dd turn:=by
 have one:∀{x k:Nat} {p:Stp},k<szB bs x->(∀c,c∈p.1++p.2↔c=fstB bs x+k)->∀z,(∃c∈a0j bs z,c∈p.1++p.2)↔z∈[x]:=fun {x k p} hk hp z=>by
  have hx:fstB bs x+k∈a0j bs x:=a5h.mpr (by omega)
  constructor
  ·rintro ⟨c,h1,h2⟩
   rw [hp] at h2;subst h2
   rw [a6z hx h1];exact mem_singleton.mpr rfl
  ·intro h
   rw [mem_singleton.mp h]
   exact ⟨_,hx,(hp _).mpr rfl⟩
 have both:∀{x y:Nat},x<bs.length->y<bs.length->(srt bs x y).length+0<=100/\∀z,(∃c∈a0j bs z,c∈srt bs x y++[])↔z∈[x,y]:=fun {x y} hx hy=>by
  have f1:∀{x:Nat},x<bs.length->fstB bs x∈a0j bs x:=fun {x} h=>a5h.mpr (by rcases a2q hb h with e|e <;> omega)
  refine ⟨srt_len hb hx hy,fun z=>⟨fun ⟨c,h1,h2⟩=>?_,fun h=>?_⟩⟩
  ·rw [append_nil,b1e] at h2
   rcases h2 with h2|h2
   ·rw [a6z h2 h1];simp
   ·rw [a6z h2 h1];simp
  ·rcases mem_cons.mp h with e|e
   ·subst e;exact ⟨_,f1 hx,by rw [append_nil];exact b1e.mpr (.inl (f1 hx))⟩
   ·have e:=mem_singleton.mp e
    subst e;exact ⟨_,f1 hy,by rw [append_nil];exact b1e.mpr (.inr (f1 hy))⟩
 have len:=b1X (bs:=bs) (dd:=dd)
 cases dd with
 | put x ns=>
  rw [len] at ht
  have ht:turn<szB bs x:=ht
  exact ⟨_,plan_put ht,by show 0+1<=100;decide,one ht (by intro c;simp)⟩
 | tick x=>
  rw [len] at ht
  have ht:turn=0:=by have:turn<1:=ht;omega
  subst ht
  have h1:0<szB bs x:=by have:=ok.2;omega
  exact ⟨_,rfl,by show 1+1<=100;decide,one (k:=0) h1 (by intro c;simp)⟩
 | grow x n=>
  rw [len] at ht
  have ht:turn<2 * szB bs x:=ht
  by_cases c:turn<szB bs x
  ·exact ⟨_,b2K c,by show 1+0<=100;decide,one c (by intro c;simp)⟩
  ·exact ⟨_,b2J (by omega) ht,by show 0+1<=100;decide,one (k:=turn - szB bs x) (by omega) (by intro c;simp)⟩
 | still n=>
  refine ⟨([],[]),?_,by decide,fun z=>⟨fun ⟨c,_,h⟩=>(nomatch h),fun h=>(nomatch h)⟩⟩
  show (replicate n ([],[]))[turn]?=some ([],[])
  rw [len] at ht
  rw [getElem?_replicate,if_pos ht]
 | non x=>
  rw [len] at ht
  have ht:turn=0:=by have:turn<1:=ht;omega
  subst ht
  exact ⟨([],[]),rfl,by decide,fun z=>⟨fun ⟨c,_,h⟩=>(nomatch h),fun h=>(nomatch h)⟩⟩
 | copy x y=>
  rw [len] at ht
  have ht:turn<szB bs x:=ht
  have hs:szB bs y=szB bs x:=ok.2.2.2
  have hx:fstB bs x+turn∈a0j bs x:=a5h.mpr (by omega)
  have hy:fstB bs y+turn∈a0j bs y:=a5h.mpr (by omega)
  refine ⟨_,b4s ht,by show 1+1<=100;decide,fun z=>⟨fun ⟨c,h1,h2⟩=>?_,fun h=>?_⟩⟩
  ·show z∈[x,y]
   rcases mem_cons.mp h2 with e|e
   ·subst e;rw [a6z hy h1];simp
   ·have e:=mem_singleton.mp e
    subst e;rw [a6z hx h1];simp
  ·have h:z∈[x,y]:=h
   rcases mem_cons.mp h with e|e
   ·subst e;exact ⟨_,hx,by simp⟩
   ·have e:=mem_singleton.mp e
    subst e;exact ⟨_,hy,by simp⟩
 | iz x y n=>
  rw [len] at ht
  have ht:turn=0:=by have:turn<1:=ht;omega
  subst ht
  exact ⟨_,rfl,both ok.1 ok.2.1⟩
 | most x y n=>
  rw [len] at ht
  have ht:turn=0:=by have:turn<1:=ht;omega
  subst ht
  exact ⟨_,rfl,both ok.1 ok.2.1⟩
 | anew x y t=>
  obtain ⟨hx,hy,hz,n1,n2,n3,hs,h1⟩:=ok
  rw [len] at ht
  have ht:turn<szB bs y+2+szB bs x:=ht
  unfold a2Y
  by_cases c:turn=0\/turn=szB bs x+1
  ·dsimp only
   rw [if_pos c]
   exact ⟨_,b2N (by omega),by show 1+0<=100;decide,one (k:=0) (by omega) (by intro c;simp)⟩
  ·dsimp only
   rw [if_neg c]
   by_cases c2:turn<=szB bs x
   ·rw [if_pos c2]
    obtain ⟨k,rfl⟩:∃k,turn=k+1:=⟨turn - 1,by omega⟩
    exact ⟨_,b2M (by omega),by show 1+0<=100;decide,one (k:=k) (by omega) (by intro c;simp)⟩
   ·rw [if_neg c2]
    obtain ⟨k,rfl⟩:∃k,turn=szB bs y+2+k:=⟨turn - (szB bs y+2),by omega⟩
    exact ⟨_,b2L (by omega),by show 0+1<=100;decide,one (k:=k) (by omega) (by intro c;simp)⟩
theorem b5f (c:Nat) (l:List Nat):dIn false (.int c) (.lst (l.map intD))=okB (decide (c∈l)):=by
 have hf:(l.map intD).all flat=true:=by rw [all_map];exact all_eq_true.mpr fun _ _=>rfl
 show (if flat (D.int (c:Int))=true/\(l.map intD).all flat=true then okB (inD (.int c) (l.map intD)) else none)=_
 rw [if_pos ⟨rfl,hf⟩]
 congr 4
 unfold inD
 rw [List.any_map]
 induction l with
 | nil=>simp
 | cons a l ih=>
  have ih:=ih (by rw [all_map];exact all_eq_true.mpr fun _ _=>rfl)
  rw [any_cons,ih]
  have e:((fun y=>eqD y (.int (c:Int))) ∘ intD) a=decide (a=c):=by
   show ((a:Int) == (c:Int))=_
   by_cases h:a=c
   ·subst h;simp
   ·rw [decide_eq_false h];exact beq_false_of_ne (by omega)
  rw [e]
  by_cases h:a=c
  ·subst h;simp
  ·have h':¬c=a:=fun z=>h z.symm
   simp [h,h']
theorem b50 {α:Type} (l:List α) (p:α->Bool):dAny (.lst (l.map fun k=>D.bl (p k)))=okB (l.any p):=by
 have e:blsOf (l.map fun k=>D.bl (p k))=some (l.map p):=by
  induction l with
  | nil=>rfl
  | cons a l ih=>rw [map_cons,map_cons];unfold blsOf;rw [ih];rfl
 show (blsOf _).bind _=_
 rw [e]
 show okB ((l.map p).any id)=_
 rw [List.any_map];rfl
theorem a73 {bs:List Bx} (hb:a1A bs) {dd:Deed} (ok:dd.Ok bs) {turn:Nat}:a2g [a0L bs,dd.d,.int turn]=okL ((a2Y bs dd turn).map intD):=by
 have one:∀{w:Str} {x:Nat} {r:List D},x<bs.length->w≠Str.ofString "still" -> w≠Str.ofString "none" -> w≠Str.ofString "copy" -> w≠Str.ofString "is" -> w≠Str.ofString "most" -> w≠Str.ofString "anew" -> a2g [a0L bs,.tup (.str w::.int x::r),.int turn]=okL [.int x]:=fun {w x r} hx n1 n2 n3 n4 n5 n6=>by
  have sz:a0r (f1 dLen) [(eBin dIx (eBin dIx (eVar 0) (eBin dIx (eVar 1) (eC (.int 1)))) (eC (.int 1)))] [some (.sh (a0L bs)),some (.sh (.tup (.str w::.int x::r))),some (.sh (.int turn)),none]=okI (szB bs x:Nat):=by
   rw [a9s hx]
   exact lenB (a0c (a0c rfl (a0c rfl rfl a0Z) (a68 hx)) rfl (b0i _)) (a8Z _)
  have g:∀{a:Str} {ρ:MEnv},w≠a->ρ[1]?=some (some (.sh (.tup (.str w::.int x::r))))->eBin dEq (eBin dIx (eVar 1) (eC (.int 0))) (eC (.str a)) ρ=okB false:=fun n h=>a0c (a0c (a1M h) rfl a0U) rfl (a0G n)
  exact a0x rfl (a0b (if_f (or_f (g n1 rfl) (g n2 rfl)) rfl) (a0b (if_f (or_f (g n3 rfl) (or_f (g n4 rfl) (g n5 rfl))) rfl) (a0b (a0p sz) (a0b (if_f (a46 (g n6 rfl)) rfl) (a0b (if_f (a46 (g n6 rfl)) rfl) (a0T (a02 (a0c rfl rfl a0Z) rfl)))))))
 have yes:∀{w:Str} {r:List D} {ρ:MEnv},ρ[1]?=some (some (.sh (.tup (.str w::r))))->eBin dEq (eBin dIx (eVar 1) (eC (.int 0))) (eC (.str w)) ρ=okB true:=fun h=>a0c (a0c (a1M h) rfl a0U) rfl (a2l rfl)
 have nope:∀{w a:Str} {r:List D} {ρ:MEnv},ρ[1]?=some (some (.sh (.tup (.str w::r))))->w≠a->eBin dEq (eBin dIx (eVar 1) (eC (.int 0))) (eC (.str a)) ρ=okB false:=fun h n=>a0c (a0c (a1M h) rfl a0U) rfl (a0G n)
 cases dd with
 | put x ns=>exact one ok.1 (by decide) (by decide) (by decide) (by decide) (by decide) (by decide)
 | tick x=>exact one ok.1 (by decide) (by decide) (by decide) (by decide) (by decide) (by decide)
 | grow x n=>exact one ok.1 (by decide) (by decide) (by decide) (by decide) (by decide) (by decide)
 | still n=>exact a0x rfl (a0E (if_t (or_t (yes rfl)) (a0T rfl)))
 | non x=>exact a0x rfl (a0E (if_t (or_f (nope rfl (by decide)) (yes rfl)) (a0T rfl)))
 | copy x y=>exact a0x rfl (a0b (if_f (or_f (nope rfl (by decide)) (nope rfl (by decide))) rfl) (a0E (if_t (or_t (yes rfl)) (a0T (a0M (a0c rfl rfl a0Z) (a0c rfl rfl a2R) rfl)))))
 | iz x y n=>exact a0x rfl (a0b (if_f (or_f (nope rfl (by decide)) (nope rfl (by decide))) rfl) (a0E (if_t (or_f (nope rfl (by decide)) (or_t (yes rfl))) (a0T (a0M (a0c rfl rfl a0Z) (a0c rfl rfl a2R) rfl)))))
 | most x y n=>exact a0x rfl (a0b (if_f (or_f (nope rfl (by decide)) (nope rfl (by decide))) rfl) (a0E (if_t (or_f (nope rfl (by decide)) (or_f (nope rfl (by decide)) (yes rfl))) (a0T (a0M (a0c rfl rfl a0Z) (a0c rfl rfl a2R) rfl)))))
 | anew x y t=>
  obtain ⟨hx,hy,hz,n1,n2,n3,hs,h1⟩:=ok
  have sz:a0r (f1 dLen) [(eBin dIx (eBin dIx (eVar 0) (eBin dIx (eVar 1) (eC (.int 1)))) (eC (.int 1)))] [some (.sh (a0L bs)),some (.sh (Deed.anew x y t).d),some (.sh (.int turn)),none]=okI (szB bs x:Nat):=by
   rw [a9s hx]
   exact lenB (a0c (a0c rfl (a0c rfl rfl a0Z) (a68 hx)) rfl (b0i _)) (a8Z _)
  have e0:a2Y bs (.anew x y t) turn=if turn=0\/turn=szB bs x+1 then [t] else if turn<=szB bs x then [y] else [x]:=rfl
  have go:∀{o:S},a7c [some (.sh (a0L bs)),some (.sh (Deed.anew x y t).d),some (.sh (.int turn)),some (.sh (.int (szB bs x:Nat)))]=some (.ret o)->a2g [a0L bs,(Deed.anew x y t).d,.int turn]=some (.ok o):=fun h=>
   a0x rfl (a0b (if_f (or_f (nope rfl (by decide)) (nope rfl (by decide))) rfl) (a0b (if_f (or_f (nope rfl (by decide)) (or_f (nope rfl (by decide)) (nope rfl (by decide)))) rfl) (a0b (a0p sz) h)))
  by_cases c:turn=0\/turn=szB bs x+1
  ·rw [e0,if_pos c]
   have cond:eOr (eBin dEq (eVar 2) (eC (.int 0))) (eBin dEq (eVar 2) (eBin dAdd (eVar 3) (eC (.int 1)))) [some (.sh (a0L bs)),some (.sh (Deed.anew x y t).d),some (.sh (.int turn)),some (.sh (.int (szB bs x:Nat)))]=okB true:=by
    by_cases z:turn=0
    ·exact or_t (a0c rfl rfl (eq_t (by omega)))
    ·exact or_f (a0c rfl rfl (eq_f (by omega))) (a0c rfl (a0c rfl rfl rfl) (eq_t (by omega)))
   exact go (a0E (if_t (a1Y (yes rfl) cond) (a0T (a02 (a0c rfl rfl b1q) rfl))))
  ·rw [e0,if_neg c]
   have cond:eOr (eBin dEq (eVar 2) (eC (.int 0))) (eBin dEq (eVar 2) (eBin dAdd (eVar 3) (eC (.int 1)))) [some (.sh (a0L bs)),some (.sh (Deed.anew x y t).d),some (.sh (.int turn)),some (.sh (.int (szB bs x:Nat)))]=okB false:=
    or_f (a0c rfl rfl (eq_f (by omega))) (a0c rfl (a0c rfl rfl rfl) (eq_f (by omega)))
   by_cases c2:turn<=szB bs x
   ·rw [if_pos c2]
    exact go (a0b (if_f (a1Y (yes rfl) cond) rfl) (a0E (if_t (a1Y (yes rfl) (a0c rfl rfl (le_t (by omega)))) (a0T (a02 (a0c rfl rfl a2R) rfl)))))
   ·rw [if_neg c2]
    exact go (a0b (if_f (a1Y (yes rfl) cond) rfl) (a0b (if_f (a1Y (yes rfl) (a0c rfl rfl (le_f (by omega)))) rfl) (a0T (a02 (a0c rfl rfl a0Z) rfl))))
theorem b2x {bs:List Bx} (hb:a1A bs) {rs:List Rw} {top:Fr} {q:Pl} (hok:q.1.Ok bs) (hrow:top.row<rs.length) (hpq:(a0V rs top.row).pl[top.place]?=some q) (ht:top.turn<(a3X bs q.1).length) {z:Nat} (hz:z<bs.length):
  a5m [a1k bs rs,top.d,.int z]=okB (decide (z∈a2Y bs q.1 top.turn)):=by
 obtain ⟨p,hp,hl,hm⟩:=b2z hb hok ht
 have da:=a5I (bs:=bs) hrow hpq
 have dO:=b3x hb hok
 have hn:(planS::a6G q.1).contains (Str.ofString "reads")=false/\(planS::a6G q.1).contains (Str.ofString "writes")=false:=by cases q.1 <;> exact ⟨rfl,rfl⟩
 have cat:dAdd (.lst (p.1.map intD)) (.lst (p.2.map intD))=okL ((p.1++p.2).map intD):=by rw [map_append];exact a60 (by rw [length_map,length_map];omega)
 have h12:=a2q hb hz
 have cl:(a0j bs z).length=szB bs z:=by unfold a0j;simp
 have key:(a0j bs z).any (fun c=>decide (c∈p.1++p.2))=decide (z∈a2Y bs q.1 top.turn):=by
  rw [Bool.eq_iff_iff,List.any_eq_true,decide_eq_true_iff,←hm z]
  exact ⟨fun ⟨c,h1,h2⟩=>⟨c,h1,of_decide_eq_true h2⟩,fun ⟨c,h1,h2⟩=>⟨c,h1,decide_eq_true h2⟩⟩
 have objE:(objOf bs q.1)=.obj (b5G q.1) (planS::a6G q.1) (.lst ((a3X bs q.1).map a6D)::b2d bs q.1):=rfl
 have rd:=reads_e (c:=b5G q.1) (b2n q.1) (ns:=a6G q.1) (ds:=b2d bs q.1) hp
 have wr:=writes_e (c:=b5G q.1) (b2n q.1) (ns:=a6G q.1) (ds:=b2d bs q.1) hp
 rw [←key]
 refine a0x rfl (a0b (a0p (a0M (a0c rfl rfl a0U) (a2n rfl (a0c rfl rfl (fr0 top)) (a0c rfl rfl (fr1 top)) da) dO)) (a1o (a0b (a0p (s:=.own (.lst ((p.1++p.2).map intD))) ?_) (a1o (a0T (a02 (a1S (a0j bs z) intD (fun c=>.bl (decide (c∈p.1++p.2))) (a4i (a0M (a0c rfl rfl a0U) rfl (a0Y hb hz)) rfl) (by rw [cl];exact le_trans (by omega:szB bs z<=2) (by decide)) fun c _=>⟨_,rfl,_,a0c rfl rfl (b5f c _),rfl⟩) (b50 _ _)))))))
 exact a0c (meth1 rfl rfl hn.1 (b2y (b2n q.1)) (a0c rfl rfl (fr2 top)) rd) (meth1 rfl rfl hn.2 (b0M (b2n q.1)) (a0c rfl rfl (fr2 top)) wr) cat
def a1Z (cs:List Int) (k:Nat):Int:=cs.getD k 0
def b1p (bs:List Bx) (cs:List Int):Deed->Bool
 | .iz x y n=>(List.range (szB bs x)).all fun k=>decide (a1Z cs (fstB bs x+k)=a1Z cs (fstB bs y+k)+n)
 | .most x y n=>(List.range (szB bs x)).all fun k=>decide (a1Z cs (fstB bs x+k)<=a1Z cs (fstB bs y+k)+n)
 | _=>true
def a7V (bs:List Bx) (x y:Nat) (k:Nat):D:=.tup [intD (fstB bs x+k),intD (fstB bs y+k)]
def askD (bs:List Bx):Deed->D
 | .iz x y n=>.fn 1 [.int n,.lst ((List.range (szB bs x)).map (a7V bs x y))]
 | .most x y n=>.fn 2 [.int n,.lst ((List.range (szB bs x)).map (a7V bs x y))]
 | _=>.fn 0 []
theorem pairs_eq {bs:List Bx} {x y:Nat} (hs:szB bs y=szB bs x):zipWith (fun a b=>D.tup [a,b]) ((a0j bs x).map intD) ((a0j bs y).map intD)=(List.range (szB bs x)).map (a7V bs x y):=by
 unfold a0j
 rw [hs,map_map,map_map,List.zipWith_map,List.zipWith_self]
 rfl
theorem b0q {bs:List Bx} {x y:Nat} (hs:szB bs y=szB bs x):dLZ [.lst ((a0j bs x).map intD),.lst ((a0j bs y).map intD)]=okL ((List.range (szB bs x)).map (a7V bs x y)):=by
 show (if ((a0j bs x).map intD).length=((a0j bs y).map intD).length then okL (zipWith (fun a b=>D.tup [a,b]) ((a0j bs x).map intD) ((a0j bs y).map intD)) else none)=_
 rw [if_pos (by unfold a0j;simp [hs]),pairs_eq hs]
theorem b0y {c:ME} {a b:MCl} {ρ:MEnv} {r:Option D} (h:c ρ=okB true) (h2:a ρ=r):cIf c a b ρ=r:=by unfold cIf;rw [h];exact h2
theorem cIf_f {c:ME} {a b:MCl} {ρ:MEnv} {r:Option D} (h:c ρ=okB false) (h2:b ρ=r):cIf c a b ρ=r:=by unfold cIf;rw [h];exact h2
theorem b2p {a:MC} {b:MCl} {ρ ρ':MEnv} {r:Option D} (h:a ρ=some (.next ρ')) (h2:b ρ'=r):cSeq a b ρ=r:=by unfold cSeq;rw [h];exact h2
theorem a9b {np n:Nat} {g:MCl} {ds:List D} {d:D} (hl:ds.length=np) (h:g (a1N n ds)=some d):fnC np n g ds=okD d:=by unfold fnC;rw [if_pos hl,h];rfl
theorem a8F {bs:List Bx} (hb:a1A bs) {dd:Deed} (ok:dd.Ok bs):a2H [a0L bs,dd.d]=okD (askD bs dd):=by
 cases dd with
 | iz x y n=>
  obtain ⟨hx,hy,hs,_⟩:=ok
  exact a9b rfl (cIf_f (a0c (a0c rfl rfl a0U) rfl rfl) (b2p (a0p (a0M (a0M rfl (a0c rfl rfl a0Z) (a0Y hb hx)) (a0M rfl (a0c rfl rfl a2R) (a0Y hb hy)) (b0q hs))) (b2p (a0p (a0c rfl rfl b1q)) (b0y (a0c (a0c rfl rfl a0U) rfl (a2l rfl)) rfl))))
 | most x y n=>
  obtain ⟨hx,hy,hs,_⟩:=ok
  exact a9b rfl (cIf_f (a0c (a0c rfl rfl a0U) rfl rfl) (b2p (a0p (a0M (a0M rfl (a0c rfl rfl a0Z) (a0Y hb hx)) (a0M rfl (a0c rfl rfl a2R) (a0Y hb hy)) (b0q hs))) (b2p (a0p (a0c rfl rfl b1q)) (cIf_f (a0c (a0c rfl rfl a0U) rfl (a0G (by decide))) rfl))))
 | put x ns=>exact a9b rfl (b0y (a0c (a0c rfl rfl a0U) rfl rfl) rfl)
 | copy x y=>exact a9b rfl (b0y (a0c (a0c rfl rfl a0U) rfl rfl) rfl)
 | grow x n=>exact a9b rfl (b0y (a0c (a0c rfl rfl a0U) rfl rfl) rfl)
 | tick x=>exact a9b rfl (b0y (a0c (a0c rfl rfl a0U) rfl rfl) rfl)
 | still n=>exact a9b rfl (b0y (a0c (a0c rfl rfl a0U) rfl rfl) rfl)
 | non x=>exact a9b rfl (b0y (a0c (a0c rfl rfl a0U) rfl rfl) rfl)
 | anew x y t=>exact a9b rfl (b0y (a0c (a0c rfl rfl a0U) rfl rfl) rfl)
theorem a8m {cs:List Int} {k:Nat} (h:k<cs.length):dIx (.tup (cs.map D.int)) (.int k)=okI (a1Z cs k):=ix_tup (by
 rw [getElem?_map,getElem?_eq_getElem h];unfold a1Z;rw [getD_eq_getElem?_getD,getElem?_eq_getElem h];rfl)
theorem bls_map {α:Type} (l:List α) (p:α->Bool):blsOf (l.map fun k=>D.bl (p k))=some (l.map p):=by
 induction l with
 | nil=>rfl
 | cons a l ih=>rw [map_cons,map_cons];unfold blsOf;rw [ih];rfl
theorem b2l {α:Type} (l:List α) (p:α->Bool):dAll (.lst (l.map fun k=>D.bl (p k)))=okB (l.all p):=by
 unfold dAll
 show (blsOf _).bind _=_
 rw [bls_map]
 show okB ((l.map p).all id)=_
 rw [all_map];rfl
theorem lam1_eq {bs:List Bx} (hb:a1A bs) {x y:Nat} {n:Int} {cs:List Int} (hx:x<bs.length) (hy:y<bs.length) (hs:szB bs y=szB bs x) (hc:cs.length=totB bs):
  b5u [.tup (cs.map D.int),.int n,.lst ((List.range (szB bs x)).map (a7V bs x y))]=okB (b1p bs cs (.iz x y n)):=by
 have l1:=a2k hx
 have l2:=a2k hy
 have h12:=a2q hb hx
 refine a02 (a1S (List.range (szB bs x)) (a7V bs x y) (fun k=>.bl (decide (a1Z cs (fstB bs x+k)=a1Z cs (fstB bs y+k)+n))) (a4i rfl rfl) (by rw [length_range];exact le_trans (by omega:szB bs x<=2) (by decide)) fun k hk=>?_) (b2l _ _)
 have hk:=mem_range.mp hk
 exact ⟨_,rfl,_,a0c (a0c rfl rfl (a8m (by omega))) (a0c (a0c rfl rfl (a8m (by omega))) rfl rfl) (eq_d _ _),rfl⟩
theorem lam2_eq {bs:List Bx} (hb:a1A bs) {x y:Nat} {n:Int} {cs:List Int} (hx:x<bs.length) (hy:y<bs.length) (hs:szB bs y=szB bs x) (hc:cs.length=totB bs):
  b5t [.tup (cs.map D.int),.int n,.lst ((List.range (szB bs x)).map (a7V bs x y))]=okB (b1p bs cs (.most x y n)):=by
 have l1:=a2k hx
 have l2:=a2k hy
 have h12:=a2q hb hx
 refine a02 (a1S (List.range (szB bs x)) (a7V bs x y) (fun k=>.bl (decide (a1Z cs (fstB bs x+k)<=a1Z cs (fstB bs y+k)+n))) (a4i rfl rfl) (by rw [length_range];exact le_trans (by omega:szB bs x<=2) (by decide)) fun k hk=>?_) (b2l _ _)
 have hk:=mem_range.mp hk
 exact ⟨_,rfl,_,a0c (a0c rfl rfl (a8m (by omega))) (a0c (a0c rfl rfl (a8m (by omega))) rfl rfl) (le_d _ _),rfl⟩
theorem b2Z (cs:List Int):a44 (cs.map D.int)=true:=by
 induction cs with
 | nil=>rfl
 | cons a l ih=>rw [map_cons];unfold a44 noFn;rw [ih];rfl
theorem b02 (bs:List Bx) (x y:Nat) (l:List Nat):a44 (l.map (a7V bs x y))=true:=by
 induction l with
 | nil=>rfl
 | cons a l ih=>rw [map_cons];unfold a44;rw [ih];rfl
def watchP (f:Fr):Nat:=if f.turn=0 then f.place else f.place+1
def a6W:Deed->Option Nat
 | .non x=>some x
 | _=>none
def a4W (rs:List Rw) (f:Fr):Option (Nat×Nat):=((a0V rs f.row).pl[watchP f]?).bind fun q=>(a6W q.1).map fun x=>(watchP f,x)
theorem b0o (dd:Deed):∃w r,dd.d=.tup (.str w::r)/\((a6W dd=none/\w≠Str.ofString "none")\/∃x,dd=.non x):=by
 cases dd with
 | non x=>exact ⟨_,_,rfl,.inr ⟨x,rfl⟩⟩
 | put x ns=>exact ⟨_,_,rfl,.inl ⟨rfl,by decide⟩⟩
 | copy x y=>exact ⟨_,_,rfl,.inl ⟨rfl,by decide⟩⟩
 | grow x n=>exact ⟨_,_,rfl,.inl ⟨rfl,by decide⟩⟩
 | tick x=>exact ⟨_,_,rfl,.inl ⟨rfl,by decide⟩⟩
 | still n=>exact ⟨_,_,rfl,.inl ⟨rfl,by decide⟩⟩
 | iz x y n=>exact ⟨_,_,rfl,.inl ⟨rfl,by decide⟩⟩
 | most x y n=>exact ⟨_,_,rfl,.inl ⟨rfl,by decide⟩⟩
 | anew x y t=>exact ⟨_,_,rfl,.inl ⟨rfl,by decide⟩⟩
section
variable {bs:List Bx} {rs:List Rw} {f top:Fr} {u:List Fr} {cs:List Int}
theorem watch_le (h:FrOk bs rs f):watchP f<=(a0V rs f.row).pl.length:=by
 unfold watchP
 have h1:=h.place
 split
 ·exact h1
 ·rename_i hn
  have:f.place≠(a0V rs f.row).pl.length:=fun z=>hn (h.lastT z)
  omega
def b3O (w:Option (Nat×Nat)):D:=match w with
 | some p=>.int p.1
 | none=>.non
theorem b2s (h:FrOk bs rs f):a2t [a1k bs rs,f.d]=okD (b3O (a4W rs f)):=by
 have hle:=watch_le h
 have hset:eIf (eBin dEq (eBin dIx (eVar 1) (eC (.int 2))) (eC (.int 0))) (eBin dIx (eVar 1) (eC (.int 1))) (eBin dAdd (eBin dIx (eVar 1) (eC (.int 1))) (eC (.int 1))) [some (.sh (a1k bs rs)),some (.sh f.d),none]=okI (watchP f:Nat):=by
  unfold watchP
  by_cases c:f.turn=0
  ·rw [if_pos c];exact ifE_t (a0c (a0c rfl rfl (fr2 f)) rfl (eq_t (by omega))) (a0c rfl rfl (fr1 f))
  ·rw [if_neg c];exact ifE_f (a0c (a0c rfl rfl (fr2 f)) rfl (eq_f (by omega))) (a0c (a0c rfl rfl (fr1 f)) rfl (succN _))
 have hlen:a0r (f1 dLen) [(a0l a1L [(eVar 0),(eBin dIx (eVar 1) (eC (.int 0)))])] [some (.sh (a1k bs rs)),some (.sh f.d),some (.sh (.int (watchP f:Nat)))]=okI ((a0V rs f.row).pl.length:Nat):=lenB (a0M rfl (a0c rfl rfl (fr0 f)) (a7i h.row)) (a5k _)
 cases hq:(a0V rs f.row).pl[watchP f]? with
 | none=>
  have:(a0V rs f.row).pl.length<=watchP f:=List.getElem?_eq_none_iff.mp hq
  have e:a4W rs f=none:=by unfold a4W;rw [hq];rfl
  rw [e]
  exact a0x rfl (a0b (a0p hset) (a0E (if_t (or_t (a0c rfl hlen (eq_t (by omega)))) (a0T rfl))))
 | some q=>
  have hlt:watchP f<(a0V rs f.row).pl.length:=(List.getElem?_eq_some_iff.mp hq).1
  have da:=a5I (bs:=bs) (top:=⟨f.row,watchP f,0,[]⟩) h.row hq
  obtain ⟨w,r,hd,hw|⟨x,hx⟩⟩:=b0o q.1
  ·have e:a4W rs f=none:=by unfold a4W;rw [hq];show (a6W q.1).map _=none;rw [hw.1];rfl
   rw [e]
   rw [hd] at da
   exact a0x rfl (a0b (a0p hset) (a0E (if_t (or_f (a0c rfl hlen (eq_f (by omega))) (a0c (a0c (a2n rfl (a0c rfl rfl (fr0 f)) rfl da) rfl a0U) rfl (a8Q hw.2))) (a0T rfl))))
  ·have e:a4W rs f=some (watchP f,x):=by unfold a4W;rw [hq];show (a6W q.1).map _=_;rw [hx];rfl
   rw [e]
   rw [hx] at da
   exact a0x rfl (a0b (a0p hset) (a0b (if_f (or_f (a0c rfl hlen (eq_f (by omega))) (a0c (a0c (a2n rfl (a0c rfl rfl (fr0 f)) rfl da) rfl a0U) rfl (b03 rfl))) rfl) (a0T rfl)))
theorem watch_at {p x:Nat} (h:a4W rs f=some (p,x)):p=watchP f/\∃q,(a0V rs f.row).pl[p]?=some q/\q.1=.non x:=by
 unfold a4W at h
 cases hq:(a0V rs f.row).pl[watchP f]? with
 | none=>rw [hq] at h;cases h
 | some q=>
  rw [hq] at h
  have h:(a6W q.1).map (fun x=>(watchP f,x))=some (p,x):=h
  cases hx:a6W q.1 with
  | none=>rw [hx] at h;cases h
  | some y=>
   rw [hx] at h
   cases h
   refine ⟨rfl,q,hq,?_⟩
   cases hd:q.1 <;> rw [hd] at hx <;> cases hx
   rfl
def a2s (bs:List Bx) (rs:List Rw) (dd:Deed) (turn:Nat) (f:Fr):Option (Nat×Nat):=(a4W rs f).bind fun p=>if p.2∈a2Y bs dd turn then some (f.row,p.1) else none
def prD (p:Nat×Nat):D:=.tup [.int p.1,.int p.2]
def lastN (bs:List Bx) (cs:List Int) (dd:Deed) (top:Fr):List (Nat×Nat):=if b1p bs cs dd=true then [] else [(top.row,top.place)]
def a5p (bs:List Bx) (rs:List Rw) (cs:List Int) (dd:Deed) (u:List Fr) (top:Fr):List (Nat×Nat):=u.filterMap (a2s bs rs dd top.turn)++lastN bs cs dd top
end
def a75 (i:Bool) (v b:Int):Bool:=if i then decide (v=b) else decide (v<=b)
theorem bad1 (i:Bool) (v b:Int):(decide (b<v) || (i && decide (v<b)))=!a75 i v b:=by
 unfold a75
 cases i with
 | true=>
  by_cases h1:b<v
  ·have:¬v=b:=by omega
   simp [h1,this]
  ·by_cases h2:v<b
   ·have:¬v=b:=by omega
    simp [h1,h2,this]
   ·have:v=b:=by omega
    simp [this]
 | false=>
  by_cases h1:b<v
  ·have:¬v<=b:=by omega
   simp [h1,this]
  ·have:v<=b:=by omega
   simp [h1,this]
abbrev dueρ (bs:List Bx) (w:Str) (x y:Nat) (n:Int) (cs:List Int) (s3 s4:S) (e5 e6:Option S):MEnv:=
 [some (.sh (a0L bs)),some (.sh (.tup [.str w,.int x,.int y,.int n])),some (.sh (.tup (cs.map D.int))),some s3,some s4,e5,e6]
theorem b5b {bs:List Bx} {x k:Nat} (h:k<szB bs x):dIx (.lst ((a0j bs x).map intD)) (.int k)=okI (fstB bs x+k:Nat):=a3H (by
 rw [getElem?_map];unfold a0j;rw [getElem?_map,getElem?_range h];rfl)
theorem due_body {bs:List Bx} (hb:a1A bs) {i:Bool} {w:Str} (hw:dEq (.str w) (.str (Str.ofString "is"))=okB i) {x y k:Nat} {n:Int} {cs:List Int} (hx:x<bs.length) (hy:y<bs.length) (hs:szB bs y=szB bs x) (hk:k<szB bs x) (hc:cs.length=totB bs)
  {s3 s4:S} (h3:s3=.sh (.lst ((a0j bs x).map intD))\/s3=.own (.lst ((a0j bs x).map intD))) (h4:s4=.sh (.lst ((a0j bs y).map intD))\/s4=.own (.lst ((a0j bs y).map intD))) {e6:Option S}:
  a5q (dueρ bs w x y n cs s3 s4 (some (.sh (.int k))) e6)=if a75 i (a1Z cs (fstB bs x+k)) (a1Z cs (fstB bs y+k)+n)=true then
   some (.next (dueρ bs w x y n cs (.sh (.lst ((a0j bs x).map intD))) (.sh (.lst ((a0j bs y).map intD))) (some (.sh (.int k))) (some (.sh (.int (a1Z cs (fstB bs y+k)+n)))))) else some (.ret (.sh (.bl false))):=by
 have l1:=a2k hx
 have l2:=a2k hy
 have vx:=a8m (cs:=cs) (k:=fstB bs x+k) (by omega)
 have vy:=a8m (cs:=cs) (k:=fstB bs y+k) (by omega)
 have cx:=b5b (bs:=bs) hk
 have cy:=b5b (bs:=bs) (x:=y) (k:=k) (by omega)
 have core:a3v (dueρ bs w x y n cs s3 (.sh (.lst ((a0j bs y).map intD))) (some (.sh (.int k))) (some (.sh (.int (a1Z cs (fstB bs y+k)+n)))))=if a75 i (a1Z cs (fstB bs x+k)) (a1Z cs (fstB bs y+k)+n)=true then
   some (.next (dueρ bs w x y n cs (.sh (.lst ((a0j bs x).map intD))) (.sh (.lst ((a0j bs y).map intD))) (some (.sh (.int k))) (some (.sh (.int (a1Z cs (fstB bs y+k)+n)))))) else some (.ret (.sh (.bl false))):=by
  have cond:eOr (eBin dGt (eBin dIx (eVar 2) (eBin dIx (eVar 3) (eVar 5))) (eVar 6)) (eAnd (eBin dEq (eBin dIx (eVar 1) (eC (.int 0))) (eC (.str (Str.ofString "is")))) (eBin dLt (eBin dIx (eVar 2) (eBin dIx (eVar 3) (eVar 5))) (eVar 6)))
    (dueρ bs w x y n cs (.sh (.lst ((a0j bs x).map intD))) (.sh (.lst ((a0j bs y).map intD))) (some (.sh (.int k))) (some (.sh (.int (a1Z cs (fstB bs y+k)+n)))))=okB (!a75 i (a1Z cs (fstB bs x+k)) (a1Z cs (fstB bs y+k)+n)):=by
   rw [←bad1]
   exact or_b (a0c (a0c rfl (a0c rfl rfl cx) vx) rfl (gt_d _ _)) (b51 (a0c (a0c rfl rfl a0U) rfl hw) (a0c (a0c rfl (a0c rfl rfl cx) vx) rfl (lt_d _ _)))
  have step:a3v (dueρ bs w x y n cs s3 (.sh (.lst ((a0j bs y).map intD))) (some (.sh (.int k))) (some (.sh (.int (a1Z cs (fstB bs y+k)+n)))))=sIf (eOr (eBin dGt (eBin dIx (eVar 2) (eBin dIx (eVar 3) (eVar 5))) (eVar 6)) (eAnd (eBin dEq (eBin dIx (eVar 1) (eC (.int 0))) (eC (.str (Str.ofString "is")))) (eBin dLt (eBin dIx (eVar 2) (eBin dIx (eVar 3) (eVar 5))) (eVar 6)))) (sRet (eC (.bl false))) a0F
    (dueρ bs w x y n cs (.sh (.lst ((a0j bs x).map intD))) (.sh (.lst ((a0j bs y).map intD))) (some (.sh (.int k))) (some (.sh (.int (a1Z cs (fstB bs y+k)+n))))):=by
   rcases h3 with rfl|rfl <;> rfl
  rw [step]
  cases hg:a75 i (a1Z cs (fstB bs x+k)) (a1Z cs (fstB bs y+k)+n) with
  | true=>rw [hg] at cond;rw [if_pos rfl];exact if_f cond rfl
  | false=>rw [hg] at cond;rw [if_neg Bool.false_ne_true];exact if_t cond rfl
 have set6:∀ρ,ρ=dueρ bs w x y n cs s3 (.sh (.lst ((a0j bs y).map intD))) (some (.sh (.int k))) e6->sSeq (sSet 6 (eBin dAdd (eBin dIx (eVar 2) (eBin dIx (eVar 4) (eVar 5))) (eBin dIx (eVar 1) (eC (.int 3))))) a3v ρ=a3v (dueρ bs w x y n cs s3 (.sh (.lst ((a0j bs y).map intD))) (some (.sh (.int k))) (some (.sh (.int (a1Z cs (fstB bs y+k)+n))))):=fun ρ e=>by
  subst e
  exact a0b (a0p (a0c (a0c rfl (a0c rfl rfl cy) vy) (a0c rfl rfl b1q) rfl)) rfl
 rw [←core]
 exact set6 _ (by rcases h4 with rfl|rfl <;> rfl)
theorem a6t {bd:MB} {body:MC} {d:D} {ds:List D} {ρ ρ1 ρ2:MEnv} {o:Option Out} (h1:bd d ρ=some ρ1) (h2:body ρ1=some (.next ρ2)) (h3:forD bd body ds ρ2=o):forD bd body (d::ds) ρ=o:=by
 unfold forD;rw [h1];dsimp only;rw [h2];exact h3
theorem for_ret {bd:MB} {body:MC} {d:D} {ds:List D} {ρ ρ1:MEnv} {s:S} (h1:bd d ρ=some ρ1) (h2:body ρ1=some (.ret s)):forD bd body (d::ds) ρ=some (.ret s):=by
 unfold forD;rw [h1];dsimp only;rw [h2]
theorem b2h {bs:List Bx} (hb:a1A bs) {i:Bool} {w:Str} (hw:dEq (.str w) (.str (Str.ofString "is"))=okB i) {x y:Nat} {n:Int} {cs:List Int} (hx:x<bs.length) (hy:y<bs.length) (hs:szB bs y=szB bs x) (hc:cs.length=totB bs):
  ∀(l:List Nat) (s3 s4:S) (e5 e6:Option S),(∀k∈l,k<szB bs x)->(s3=.sh (.lst ((a0j bs x).map intD))\/s3=.own (.lst ((a0j bs x).map intD)))->(s4=.sh (.lst ((a0j bs y).map intD))\/s4=.own (.lst ((a0j bs y).map intD)))->
   (l.all (fun k=>a75 i (a1Z cs (fstB bs x+k)) (a1Z cs (fstB bs y+k)+n))=true/\∃s3' s4' e5' e6',forD (a09 5) a5q (l.map intD) (dueρ bs w x y n cs s3 s4 e5 e6)=some (.next (dueρ bs w x y n cs s3' s4' e5' e6')))\/
   (l.all (fun k=>a75 i (a1Z cs (fstB bs x+k)) (a1Z cs (fstB bs y+k)+n))=false/\forD (a09 5) a5q (l.map intD) (dueρ bs w x y n cs s3 s4 e5 e6)=some (.ret (.sh (.bl false))))
 | [],s3,s4,e5,e6,_,_,_=>.inl ⟨rfl,s3,s4,e5,e6,rfl⟩
 | k::l,s3,s4,e5,e6,hk,h3,h4=>by
  have body:=due_body hb hw (n:=n) hx hy hs (hk k mem_cons_self) hc h3 h4 (e6:=e6)
  rw [List.all_cons,map_cons]
  cases hg:a75 i (a1Z cs (fstB bs x+k)) (a1Z cs (fstB bs y+k)+n) with
  | true=>
   rw [hg,if_pos rfl] at body
   rcases b2h hb hw hx hy hs hc l _ _ (some (.sh (.int k))) (some (.sh (.int (a1Z cs (fstB bs y+k)+n)))) (fun j hj=>hk j (mem_cons_of_mem _ hj)) (.inl rfl) (.inl rfl) with ⟨h1,s3',s4',e5',e6',h2⟩|⟨h1,h2⟩
   ·exact .inl ⟨by rw [h1];rfl,s3',s4',e5',e6',a6t rfl body h2⟩
   ·exact .inr ⟨by rw [h1];rfl,a6t rfl body h2⟩
  | false=>
   rw [hg,if_neg Bool.false_ne_true] at body
   exact .inr ⟨rfl,for_ret rfl body⟩
theorem due_is {bs:List Bx} (hb:a1A bs) {i:Bool} {w:Str} {x y:Nat} {n:Int} {cs:List Int} (hw:dEq (.str w) (.str (Str.ofString "is"))=okB i) (hp:eAnd (eBin dNe (eBin dIx (eVar 1) (eC (.int 0))) (eC (.str (Str.ofString "is")))) (eBin dNe (eBin dIx (eVar 1) (eC (.int 0))) (eC (.str (Str.ofString "most")))) [some (.sh (a0L bs)),some (.sh (.tup [.str w,.int x,.int y,.int n])),some (.sh (.tup (cs.map D.int))),none,none,none,none]=okB false)
  (hx:x<bs.length) (hy:y<bs.length) (hs:szB bs y=szB bs x) (hc:cs.length=totB bs):a3m [a0L bs,.tup [.str w,.int x,.int y,.int n],.tup (cs.map D.int)]=okB ((List.range (szB bs x)).all fun k=>a75 i (a1Z cs (fstB bs x+k)) (a1Z cs (fstB bs y+k)+n)):=by
 have h12:=a2q hb hx
 have rg:a08 (a0r (f1 dLen) [(eAny 3)]) (dueρ bs w x y n cs (.own (.lst ((a0j bs x).map intD))) (.own (.lst ((a0j bs y).map intD))) none none)=some (.ok ((List.range (szB bs x)).map intD)):=by
  have e:((a0j bs x).map intD).length=szB bs x:=by unfold a0j;simp
  rw [←rng0]
  exact a2f (lenB (s1:=.sh (.lst ((a0j bs x).map intD))) rfl (by show dLen (.lst _)=_;rw [a3t,e])) (a1d (by omega))
 rcases b2h hb hw (n:=n) hx hy hs hc (List.range (szB bs x)) (.own (.lst ((a0j bs x).map intD))) (.own (.lst ((a0j bs y).map intD))) none none (fun k hk=>mem_range.mp hk) (.inr rfl) (.inr rfl) with ⟨h1,s3',s4',e5',e6',h2⟩|⟨h1,h2⟩
 ·rw [h1]
  exact a0x rfl (a0b (if_f hp rfl) (a0b (a0p (a0M rfl (a0c rfl rfl a0Z) (a0X hb hx))) (a0b (a0p (a0M rfl (a0c rfl rfl a2R) (a0X hb hy))) (a0b (a7B rg h2) (a0T rfl)))))
 ·rw [h1]
  exact a0x rfl (a0b (if_f hp rfl) (a0b (a0p (a0M rfl (a0c rfl rfl a0Z) (a0X hb hx))) (a0b (a0p (a0M rfl (a0c rfl rfl a2R) (a0X hb hy))) (a0E (a7B rg h2)))))
theorem due_eq {bs:List Bx} (hb:a1A bs) {dd:Deed} (ok:dd.Ok bs) {cs:List Int} (hc:cs.length=totB bs):a3m [a0L bs,dd.d,.tup (cs.map D.int)]=okB (b1p bs cs dd):=by
 have no:∀(w:Str) (r:List D),w≠Str.ofString "is" -> w≠Str.ofString "most" -> a3m [a0L bs,.tup (.str w::r),.tup (cs.map D.int)]=okB true:=fun w r h1 h2=>
  a0x rfl (a0E (if_t (a1Y (a0c (a0c rfl rfl a0U) rfl (a8Q h1)) (a0c (a0c rfl rfl a0U) rfl (a8Q h2))) (a0T rfl)))
 cases dd with
 | iz x y n=>
  obtain ⟨hx,hy,hs,_⟩:=ok
  exact due_is (i:=true) hb (a2l rfl) (a46 (a0c (a0c rfl rfl a0U) rfl (b03 rfl))) hx hy hs hc
 | most x y n=>
  obtain ⟨hx,hy,hs,_⟩:=ok
  exact due_is (i:=false) hb (a0G (by decide)) (a1Y (a0c (a0c rfl rfl a0U) rfl (a8Q (by decide))) (a0c (a0c rfl rfl a0U) rfl (b03 rfl))) hx hy hs hc
 | put x ns=>exact no _ _ (by decide) (by decide)
 | copy x y=>exact no _ _ (by decide) (by decide)
 | grow x n=>exact no _ _ (by decide) (by decide)
 | tick x=>exact no _ _ (by decide) (by decide)
 | still n=>exact no _ _ (by decide) (by decide)
 | non x=>exact no _ _ (by decide) (by decide)
 | anew x y t=>exact no _ _ (by decide) (by decide)
theorem a4T {T:Nat->Option (List D->Option R)} {k:Nat} {gf ga:ME} {ρ:MEnv} {ds:List D} {d:D} {F:List D->Option R} {b:Bool} (h0:gf ρ=okD (.fn k ds)) (h1:ga ρ=okD d) (n1:noFn d=true) (n2:a44 ds=true) (hT:T k=some F) (hF:F (d::ds)=okB b):a8p T gf ga ρ=okB b:=by
 unfold a8p
 rw [h0]
 dsimp only [okD,a1h,S.val]
 rw [h1]
 show (if (noFn d && a44 ds)=true then (match T k with|some F=>a6Z (F (d::ds))|none=>none) else none)=_
 rw [if_pos (by rw [n1,n2];rfl),hT]
 show a6Z (F (d::ds))=_
 rw [hF]
 rfl
theorem askX_eq {bs:List Bx} (hb:a1A bs) {dd:Deed} (ok:dd.Ok bs) {cs:List Int} (hc:cs.length=totB bs) {ρ:MEnv} {gf ga:ME} (h0:gf ρ=okD (askD bs dd)) (h1:ga ρ=okD (.tup (cs.map D.int))):a8p tbL gf ga ρ=okB (b1p bs cs dd):=by
 have n1:noFn (.tup (cs.map D.int))=true:=by unfold noFn;exact b2Z cs
 have nl:∀(n:Int) (x y:Nat),a44 [.int n,.lst ((List.range (szB bs x)).map (a7V bs x y))]=true:=fun n x y=>by
  have:=b02 bs x y (List.range (szB bs x))
  simp only [a44,noFn,this,Bool.and_true]
 cases dd with
 | iz x y n=>
  obtain ⟨hx,hy,hs,_⟩:=ok
  exact a4T h0 h1 n1 (nl n x y) rfl (lam1_eq hb hx hy hs hc)
 | most x y n=>
  obtain ⟨hx,hy,hs,_⟩:=ok
  exact a4T h0 h1 n1 (nl n x y) rfl (lam2_eq hb hx hy hs hc)
 | put x ns=>exact a4T h0 h1 n1 rfl rfl rfl
 | copy x y=>exact a4T h0 h1 n1 rfl rfl rfl
 | grow x n=>exact a4T h0 h1 n1 rfl rfl rfl
 | tick x=>exact a4T h0 h1 n1 rfl rfl rfl
 | still n=>exact a4T h0 h1 n1 rfl rfl rfl
 | non x=>exact a4T h0 h1 n1 rfl rfl rfl
 | anew x y t=>exact a4T h0 h1 n1 rfl rfl rfl
section
variable {bs:List Bx} {rs:List Rw} {top:Fr} {u:List Fr} {cs:List Int}
theorem b5s {α β:Type} (g:α->Option β) (l:List α):(l.filterMap g).length<=l.length:=List.length_filterMap_le g l
theorem b0z (hb:a1A bs) (hr:∀r∈rs,∀q∈r.pl,q.1.Ok bs) (hu:∀f∈u,FrOk bs rs f) (hul:u.length<=100) (ht:FrOk bs rs top) (hc:cs.length=totB bs) {q:Pl} (hpq:(a0V rs top.row).pl[top.place]?=some q):
  a3q [a1k bs rs,a1U (u++[top]),.tup (cs.map D.int)]=okD (.tup ((a5p bs rs cs q.1 u top).map prD)):=by
 have rowm:∀{k:Nat},k<rs.length->a0V rs k∈rs:=fun {k} h=>by rw [←a5C h];exact getElem_mem h
 have okq:q.1.Ok bs:=hr _ (rowm ht.row) q (mem_of_getElem? hpq)
 have tt:top.turn<(a3X bs q.1).length:=by rw [←b2u];exact (ht.turn q hpq).1
 have hpl:top.place<(a0V rs top.row).pl.length:=(List.getElem?_eq_some_iff.mp hpq).1
 obtain ⟨ρ',e,e5,e6,rfl⟩:=a6u (bd:=a09 5) (body:=a9n) Fr.d (fun pre ρ=>∃e5 e6:Option S,ρ=[some (.sh (a1k bs rs)),some (.sh (a1U (u++[top]))),some (.sh (.tup (cs.map D.int))),some (.sh top.d),some (.own (.lst ((pre.filterMap (a2s bs rs q.1 top.turn)).map prD))),e5,e6]) u (ρ:=[some (.sh (a1k bs rs)),some (.sh (a1U (u++[top]))),some (.sh (.tup (cs.map D.int))),some (.sh top.d),some (.own (.lst [])),none,none]) ⟨none,none,rfl⟩ (by
  rintro pre f post ρ hsp ⟨e5,e6,rfl⟩
  have hf:f∈u:=by rw [hsp];simp
  have hpre:pre.length<=100:=by have:=congrArg List.length hsp;simp at this;omega
  have hfo:=hu f hf
  have wt:=b2s hfo
  cases hw:a4W rs f with
  | none=>
   rw [hw] at wt
   refine ⟨_,_,rfl,.inl (a0b (a0p (a0M rfl rfl wt)) (if_f (a46 (un_e rfl rfl)) rfl)),some (.sh f.d),some (.sh .non),?_⟩
   have:a2s bs rs q.1 top.turn f=none:=by unfold a2s;rw [hw];rfl
   rw [List.filterMap_append,filterMap_cons,this]
   simp [b3O]
  | some px=>
   obtain ⟨p,x⟩:=px
   rw [hw] at wt
   obtain ⟨_,q2,hq2,hx⟩:=watch_at hw
   have hxo:x<bs.length:=by
    have:=hr _ (rowm hfo.row) q2 (mem_of_getElem? hq2)
    rw [hx] at this;exact this
   have da:=a5I (bs:=bs) (top:=⟨f.row,p,0,[]⟩) hfo.row hq2
   rw [hx] at da
   have to:=b2x hb okq ht.row hpq tt hxo
   by_cases c:x∈a2Y bs q.1 top.turn
   ·rw [decide_eq_true c] at to
    refine ⟨_,_,rfl,.inl (a0b (a0p (a0M rfl rfl wt)) (if_t (a1Y (un_e rfl rfl) (a2n rfl rfl (a0c (a2n rfl (a0c rfl rfl (fr0 f)) rfl da) rfl a0Z) to)) (a4l rfl (tup2 (a0c rfl rfl (fr0 f)) rfl) ?_))),some (.sh f.d),some (.sh (.int p)),?_⟩
    ·rw [length_map]
     exact lt_of_le_of_lt (le_trans (b5s _ _) hpre) (by decide)
    ·have:a2s bs rs q.1 top.turn f=some (f.row,p):=by unfold a2s;rw [hw];exact if_pos c
     rw [List.filterMap_append,filterMap_cons,this,List.filterMap_nil,map_append]
     rfl
   ·rw [decide_eq_false c] at to
    refine ⟨_,_,rfl,.inl (a0b (a0p (a0M rfl rfl wt)) (if_f (a1Y (un_e rfl rfl) (a2n rfl rfl (a0c (a2n rfl (a0c rfl rfl (fr0 f)) rfl da) rfl a0Z) to)) rfl)),some (.sh f.d),some (.sh (.int p)),?_⟩
    have:a2s bs rs q.1 top.turn f=none:=by unfold a2s;rw [hw];exact if_neg c
    rw [List.filterMap_append,filterMap_cons,this]
    simp [b3O])
 have hcut:a4Z (eVar 1) none (some (eC (.int (-1)))) [some (.sh (a1k bs rs)),some (.sh (a1U (u++[top]))),some (.sh (.tup (cs.map D.int))),some (.sh top.d),some (.own (.lst [])),none,none]=okD (a1U u):=b2P rfl
 have hend:a3p [a1k bs rs,top.d]=okB false:=by rw [b0G ht.row,decide_eq_false (by omega)]
 have da:=a5I (bs:=bs) ht.row hpq
 have lst:∀ρ:MEnv,ρ=[some (.sh (a1k bs rs)),some (.sh (a1U (u++[top]))),some (.sh (.tup (cs.map D.int))),some (.sh top.d),some (.own (.lst ((u.filterMap (a2s bs rs q.1 top.turn)).map prD))),e5,e6]->a8y ρ=some (.ret (.sh (.tup ((a5p bs rs cs q.1 u top).map prD)))):=fun ρ eρ=>by
  subst eρ
  have ask:=askX_eq hb okq hc (ρ:=[some (.sh (a1k bs rs)),some (.sh (a1U (u++[top]))),some (.sh (.tup (cs.map D.int))),some (.sh top.d),some (.own (.lst ((u.filterMap (a2s bs rs q.1 top.turn)).map prD))),e5,e6]) (gf:=a0l a2H [(eBin dIx (eVar 0) (eC (.int 0))),(a0l a1O [(eVar 0),(eBin dIx (eVar 3) (eC (.int 0))),(eBin dIx (eVar 3) (eC (.int 1)))])]) (ga:=eVar 2) (a0M (a0c rfl rfl a0U) (a2n rfl (a0c rfl rfl (fr0 top)) (a0c rfl rfl (fr1 top)) da) (a8F hb okq)) rfl
  unfold a5p lastN
  cases hk:b1p bs cs q.1 with
  | true=>
   rw [hk] at ask
   rw [if_pos rfl,append_nil]
   exact a0b (if_f (not_t ask) rfl) (a1o (a0T (a02 rfl rfl)))
  | false=>
   rw [hk] at ask
   rw [if_neg Bool.false_ne_true,map_append]
   exact a0b (if_t (not_f ask) (a4l rfl (tup2 (a0c rfl rfl (fr0 top)) (a0c rfl rfl (fr1 top))) (by rw [length_map];exact lt_of_le_of_lt (le_trans (b5s _ _) hul) (by decide)))) (a1o (a0T (a02 rfl rfl)))
 exact a0x rfl (a0b (a0p (a0c rfl rfl (a3Y u top))) (a0b (if_f (a0M rfl rfl hend) rfl) (a0b (a0p rfl) (a0b (a7B (a4i hcut rfl) e) (lst _ rfl)))))
def hitN (bs:List Bx) (rs:List Rw) (dd:Deed) (turn:Nat) (f:Fr) (p:Nat):Option (Nat×Nat):=if p=f.place\/0<f.turn then ((a0V rs f.row).pl[p]?).bind fun q=>(a6W q.1).bind fun x=>if x∈a2Y bs dd turn then some (f.row,p) else none else none
theorem a5l (dd:Deed) (turn:Nat) (f:Fr):hitN bs rs dd turn f (watchP f)=a2s bs rs dd turn f:=by
 have c:watchP f=f.place\/0<f.turn:=by unfold watchP;split <;> omega
 unfold hitN a2s a4W
 rw [if_pos c]
 cases (a0V rs f.row).pl[watchP f]? with
 | none=>rfl
 | some q=>
  show (a6W q.1).bind _=Option.bind ((a6W q.1).map _) _
  cases a6W q.1 <;> rfl
theorem b5k {dd:Deed} {turn:Nat} {f:Fr} (h:FrOk bs rs f) (ht:0<f.turn):hitN bs rs dd turn f f.place=none:=by
 unfold hitN
 rw [if_pos (.inl rfl)]
 cases hq:(a0V rs f.row).pl[f.place]? with
 | none=>rfl
 | some q=>
  show (a6W q.1).bind _=none
  have:=(h.turn q hq).1
  cases hd:q.1 with
  | non x=>rw [hd] at this;have:f.turn<1:=this;omega
  | _=>rfl
theorem hit_late {dd:Deed} {turn:Nat} {f:Fr} (ht:f.turn=0):hitN bs rs dd turn f (f.place+1)=none:=by
 unfold hitN
 exact if_neg (by omega)
theorem fm_snoc {α β:Type} (g:α->Option β) (l:List α) (a:α):(l++[a]).filterMap g=l.filterMap g++(g a).toList:=by
 rw [List.filterMap_append,filterMap_cons]
 cases g a <;> rfl
abbrev ρB (bs:List Bx) (rs:List Rw) (u:List Fr) (top:Fr) (cs:List Int) (dd:Deed) (s5:S) (l:List (Nat×Nat)) (e7 e8 e9 e10:Option S):MEnv:=
 [some (.sh (a1k bs rs)),some (.sh (stD (u++[top]) cs)),some (.sh top.d),some (.sh (.tup ((a0V rs top.row).pl.map plD))),some (.sh dd.d),some s5,some (.own (.lst (l.map prD))),e7,e8,e9,e10]
abbrev b3o (bs:List Bx) (dd:Deed) (turn:Nat):D:=.lst ((a2Y bs dd turn).map intD)
abbrev plsD (rs:List Rw) (f:Fr):D:=.tup ((a0V rs f.row).pl.map plD)
theorem b18 {dd:Deed} {f:Fr} {p:Nat} (hp:p<(a0V rs f.row).pl.length) {s5:S} (h5:s5=.sh (b3o bs dd top.turn)\/s5=.own (.lst ((a2Y bs dd top.turn).map intD))) {l:List (Nat×Nat)} (hl:l.length<=1000) {e10:Option S}:
  ∃e10',a4q (ρB bs rs u top cs dd s5 l (some (.sh f.d)) (some (.sh (plsD rs f))) (some (.sh (.int p))) e10)=some (.next (ρB bs rs u top cs dd (.sh (b3o bs dd top.turn)) (l++(hitN bs rs dd top.turn f p).toList) (some (.sh f.d)) (some (.sh (plsD rs f))) (some (.sh (.int p))) e10')):=by
 have ixp:∀{p:Nat} {q:Pl},(a0V rs f.row).pl[p]?=some q->dIx (plsD rs f) (.int p)=okD (plD q):=fun h=>ix_tup (by rw [getElem?_map,h];rfl)
 have win:eOr (eBin dEq (eVar 9) (eBin dIx (eVar 7) (eC (.int 1)))) (eBin dGt (eBin dIx (eVar 7) (eC (.int 2))) (eC (.int 0))) (ρB bs rs u top cs dd s5 l (some (.sh f.d)) (some (.sh (plsD rs f))) (some (.sh (.int p))) e10)=okB (decide (p=f.place\/0<f.turn)):=by
  by_cases c1:p=f.place
  ·rw [decide_eq_true (.inl c1)];exact or_t (a0c rfl (a0c rfl rfl (fr1 f)) (eq_t (by omega)))
  ·by_cases c2:0<f.turn
   ·rw [decide_eq_true (.inr c2)];exact or_f (a0c rfl (a0c rfl rfl (fr1 f)) (eq_f (by omega))) (a0c (a0c rfl rfl (fr2 f)) rfl (gt_t (by omega)))
   ·rw [decide_eq_false (by omega)];exact or_f (a0c rfl (a0c rfl rfl (fr1 f)) (eq_f (by omega))) (a0c (a0c rfl rfl (fr2 f)) rfl (gt_f (by omega)))
 have rest:∀{b:Bool} {o:Out},b=decide (p=f.place\/0<f.turn)->sIf (eAnd (eVar 10) (eAnd (eBin dEq (eBin dIx (eBin dIx (eBin dIx (eVar 8) (eVar 9)) (eC (.int 0))) (eC (.int 0))) (eC (.str (Str.ofString "none")))) (eBin (dIn false) (eBin dIx (eBin dIx (eBin dIx (eVar 8) (eVar 9)) (eC (.int 0))) (eC (.int 1))) (eVar 5)))) (a1m 6 (eTup [(eBin dIx (eVar 7) (eC (.int 0))),(eVar 9)])) a0F
   (ρB bs rs u top cs dd (.sh (b3o bs dd top.turn)) l (some (.sh f.d)) (some (.sh (plsD rs f))) (some (.sh (.int p))) (some (.sh (.bl b))))=some o->
   a4q (ρB bs rs u top cs dd s5 l (some (.sh f.d)) (some (.sh (plsD rs f))) (some (.sh (.int p))) e10)=some o:=fun {b o} hb h=>by
  subst hb
  refine a0b (a0p win) ?_
  rcases h5 with rfl|rfl
  ·exact h
  ·exact h
 obtain ⟨q2,hq2⟩:∃q2,(a0V rs f.row).pl[p]?=some q2:=⟨_,getElem?_eq_getElem hp⟩
 by_cases c:p=f.place\/0<f.turn
 ·have hh:hitN bs rs dd top.turn f p=(a6W q2.1).bind fun x=>if x∈a2Y bs dd top.turn then some (f.row,p) else none:=by unfold hitN;rw [if_pos c,hq2];rfl
  have rest':=fun {o:Out}=>@rest true o (decide_eq_true c).symm
  obtain ⟨w,r,hd,hw|⟨x,hx⟩⟩:=b0o q2.1
  ·have d0:dIx q2.1.d (.int 0)=okD (.str w):=by rw [hd];exact a0U
   have:hitN bs rs dd top.turn f p=none:=by rw [hh,hw.1];rfl
   rw [this]
   refine ⟨some (.sh (.bl true)),(rest' (if_f (a1Y rfl (a46 (a0c (a0c (a0c (a0c rfl rfl (ixp hq2)) rfl a0U) rfl d0) rfl (a0G hw.2)))) rfl)).trans ?_⟩
   rw [Option.toList_none,append_nil]
  ·have d0:dIx q2.1.d (.int 0)=okD (.str (Str.ofString "none")):=by rw [hx];exact a0U
   have d1:dIx q2.1.d (.int 1)=okI (x:Nat):=by rw [hx];exact a0Z
   have inn:=b5f x (a2Y bs dd top.turn)
   by_cases m:x∈a2Y bs dd top.turn
   ·rw [decide_eq_true m] at inn
    have:hitN bs rs dd top.turn f p=some (f.row,p):=by rw [hh,hx];exact if_pos m
    rw [this]
    refine ⟨some (.sh (.bl true)),(rest' (if_t (a1Y rfl (a1Y (a0c (a0c (a0c (a0c rfl rfl (ixp hq2)) rfl a0U) rfl d0) rfl (a2l rfl)) (a0c (a0c (a0c (a0c rfl rfl (ixp hq2)) rfl a0U) rfl d1) rfl inn))) (a4l rfl (tup2 (a0c rfl rfl (fr0 f)) rfl) (by rw [length_map];exact lt_of_le_of_lt hl (by decide))))).trans ?_⟩
    unfold ρB
    rw [map_append]
    rfl
   ·rw [decide_eq_false m] at inn
    have:hitN bs rs dd top.turn f p=none:=by rw [hh,hx];exact if_neg m
    rw [this]
    refine ⟨some (.sh (.bl true)),(rest' (if_f (a1Y rfl (a1Y (a0c (a0c (a0c (a0c rfl rfl (ixp hq2)) rfl a0U) rfl d0) rfl (a2l rfl)) (a0c (a0c (a0c (a0c rfl rfl (ixp hq2)) rfl a0U) rfl d1) rfl inn))) rfl)).trans ?_⟩
    rw [Option.toList_none,append_nil]
 ·have:hitN bs rs dd top.turn f p=none:=by unfold hitN;exact if_neg c
  rw [this]
  refine ⟨some (.sh (.bl false)),(@rest false _ (decide_eq_false c).symm (if_f (a46 rfl) rfl)).trans ?_⟩
  rw [Option.toList_none,append_nil]
theorem hit_loop {dd:Deed} {f:Fr} (h:FrOk bs rs f) {s5:S} (h5:s5=.sh (b3o bs dd top.turn)\/s5=.own (.lst ((a2Y bs dd top.turn).map intD))) {l:List (Nat×Nat)} (hl:l.length<=900) {e9 e10:Option S}:
  ∃s5' e9' e10',(s5'=.sh (b3o bs dd top.turn)\/s5'=.own (.lst ((a2Y bs dd top.turn).map intD)))/\forD (a09 9) a4q (rng (f.place:Nat) ((min (f.place+2) (a0V rs f.row).pl.length:Nat):Int)) (ρB bs rs u top cs dd s5 l (some (.sh f.d)) (some (.sh (plsD rs f))) e9 e10)=some (.next (ρB bs rs u top cs dd s5' (l++(a2s bs rs dd top.turn f).toList) (some (.sh f.d)) (some (.sh (plsD rs f))) e9' e10')):=by
 have hle:=h.place
 rw [rngN]
 by_cases c0:f.place=(a0V rs f.row).pl.length
 ·have ht:=h.lastT c0
  have:a2s bs rs dd top.turn f=none:=by
   rw [←a5l]
   have:watchP f=f.place:=by unfold watchP;exact if_pos ht
   unfold hitN
   rw [this,if_pos (.inl rfl),c0,getElem?_eq_none (le_refl _)]
   rfl
  rw [this,show min (f.place+2) (a0V rs f.row).pl.length - f.place=0 by omega,Option.toList_none,append_nil]
  exact ⟨s5,e9,e10,h5,rfl⟩
 ·obtain ⟨e10',b0⟩:=b18 (u:=u) (cs:=cs) (rs:=rs) (dd:=dd) (f:=f) (top:=top) (p:=f.place) (by omega) h5 (l:=l) (by omega) (e10:=e10)
  by_cases c1:f.place+1=(a0V rs f.row).pl.length
  ·have:hitN bs rs dd top.turn f f.place=a2s bs rs dd top.turn f:=by
    by_cases ht:f.turn=0
    ·rw [←a5l]
     have:watchP f=f.place:=by unfold watchP;exact if_pos ht
     rw [this]
    ·rw [b5k h (by omega),←a5l]
     have:watchP f=f.place+1:=by unfold watchP;exact if_neg ht
     unfold hitN
     rw [this,if_pos (.inr (by omega)),c1,getElem?_eq_none (le_refl _)]
     rfl
   rw [this] at b0
   rw [show min (f.place+2) (a0V rs f.row).pl.length - f.place=1 by omega]
   exact ⟨_,_,e10',.inl rfl,a6t rfl b0 rfl⟩
  ·have hl2:(l++(hitN bs rs dd top.turn f f.place).toList).length<=1000:=by
    have:((hitN bs rs dd top.turn f f.place).toList).length<=1:=by cases hitN bs rs dd top.turn f f.place <;> simp
    rw [length_append];omega
   obtain ⟨e10'',b1⟩:=b18 (bs:=bs) (rs:=rs) (u:=u) (cs:=cs) (dd:=dd) (p:=f.place+1) (f:=f) (top:=top) (by omega) (.inl rfl) hl2 (e10:=e10')
   have:l++(hitN bs rs dd top.turn f f.place).toList++(hitN bs rs dd top.turn f (f.place+1)).toList=l++(a2s bs rs dd top.turn f).toList:=by
    by_cases ht:f.turn=0
    ·rw [hit_late ht,←a5l]
     have:watchP f=f.place:=by unfold watchP;exact if_pos ht
     rw [this,Option.toList_none,append_nil]
    ·rw [b5k h (by omega),←a5l]
     have:watchP f=f.place+1:=by unfold watchP;exact if_neg ht
     rw [this,Option.toList_none,append_nil]
   rw [this] at b1
   rw [show min (f.place+2) (a0V rs f.row).pl.length - f.place=2 by omega]
   exact ⟨_,_,e10'',.inl rfl,a6t rfl b0 (a6t rfl b1 rfl)⟩
theorem min2 (a b:Nat):dMin2 (.int a) (.int b)=okI ((min a b:Nat):Int):=by
 show okI (if (b:Int)<a then (b:Int) else a)=_
 congr 3
 split <;> omega
theorem a82 (hb:a1A bs) (hr:∀r∈rs,(∀q∈r.pl,q.1.Ok bs)/\r.pl.length<=100) (hu:∀f∈u,FrOk bs rs f) (hul:u.length<=100) (ht:FrOk bs rs top) (hc:cs.length=totB bs) {q:Pl} (hpq:(a0V rs top.row).pl[top.place]?=some q):
  a1X [a1k bs rs,stD (u++[top]) cs]=okD (.tup ((a5p bs rs cs q.1 u top).map prD)):=by
 have rowm:∀{k:Nat},k<rs.length->a0V rs k∈rs:=fun {k} h=>by rw [←a5C h];exact getElem_mem h
 have okq:q.1.Ok bs:=(hr _ (rowm ht.row)).1 q (mem_of_getElem? hpq)
 have hpl:top.place<(a0V rs top.row).pl.length:=(List.getElem?_eq_some_iff.mp hpq).1
 have pls:∀{ρ:MEnv} {i:Nat} {f:Fr},f.row<rs.length->ρ[0]?=some (some (.sh (a1k bs rs)))->ρ[i]?=some (some (.sh f.d))->eBin dIx (eBin dIx (eBin dIx (eVar 0) (eC (.int 1))) (eBin dIx (eVar i) (eC (.int 0)))) (eC (.int 2)) ρ=okD (plsD rs f):=fun {ρ i f} h h0 hi=>a0c (a0c (a0c (a1M h0) rfl a0Z) (a0c (a1M hi) rfl (fr0 f)) (a7x h)) rfl a2R
 obtain ⟨ρ',e,s5,e7,e8,e9,e10,h5,rfl⟩:=a6u (bd:=a09 7) (body:=a79) Fr.d (fun pre ρ=>∃(s5:S) (e7 e8 e9 e10:Option S),(s5=.sh (b3o bs q.1 top.turn)\/s5=.own (.lst ((a2Y bs q.1 top.turn).map intD)))/\ρ=ρB bs rs u top cs q.1 s5 (pre.filterMap (a2s bs rs q.1 top.turn)) e7 e8 e9 e10) u
  (ρ:=ρB bs rs u top cs q.1 (.own (.lst ((a2Y bs q.1 top.turn).map intD))) [] none none none none) ⟨_,none,none,none,none,.inr rfl,rfl⟩ (by
  rintro pre f post ρ hsp ⟨s5,e7,e8,e9,e10,h5,rfl⟩
  have hf:f∈u:=by rw [hsp];simp
  have hpre:pre.length<=100:=by have:=congrArg List.length hsp;simp at this;omega
  have hfo:=hu f hf
  have h100:=(hr _ (rowm hfo.row)).2
  have hle:=hfo.place
  have hfm:=b5s (a2s bs rs q.1 top.turn) pre
  obtain ⟨s5',e9',e10',h5',lp⟩:=hit_loop (u:=u) (cs:=cs) (dd:=q.1) (top:=top) hfo h5 (l:=pre.filterMap (a2s bs rs q.1 top.turn)) (by omega) (e9:=e9) (e10:=e10)
  rw [←fm_snoc] at lp
  refine ⟨_,_,rfl,.inl (a0b (a0p (pls hfo.row rfl rfl)) (a7B (b1T (i:=(f.place:Nat)) (a0c rfl rfl (fr1 f)) (a0M (a0c (a0c rfl rfl (fr1 f)) rfl (show dAdd (.int (f.place:Nat)) (.int 2)=okI ((f.place+2:Nat):Int) from rfl)) (lenB (a4d rfl) (a5k _)) (min2 _ _)) (a1d (by omega)) (a1d (by omega))) lp)),s5',_,_,e9',e10',h5',rfl⟩)
 have hcut:∀{ρ:MEnv},ρ[1]?=some (some (.sh (stD (u++[top]) cs)))->a4Z (eBin dIx (eVar 1) (eC (.int 0))) none (some (eC (.int (-1)))) ρ=okD (a1U u):=fun h=>a50 h
 have held:=due_eq hb okq hc
 have lst:∀ρ:MEnv,ρ=ρB bs rs u top cs q.1 s5 (u.filterMap (a2s bs rs q.1 top.turn)) e7 e8 e9 e10->a7N ρ=some (.ret (.sh (.tup ((a5p bs rs cs q.1 u top).map prD)))):=fun ρ eρ=>by
  subst eρ
  unfold a5p lastN
  cases hk:b1p bs cs q.1 with
  | true=>
   rw [hk] at held
   rw [if_pos rfl,append_nil]
   exact a0b (if_f (not_t (a2n (a0c rfl rfl a0U) rfl (a0c rfl rfl a0Z) held)) rfl) (a1o (a0T (a02 rfl rfl)))
  | false=>
   rw [hk] at held
   rw [if_neg Bool.false_ne_true,map_append]
   exact a0b (if_t (not_f (a2n (a0c rfl rfl a0U) rfl (a0c rfl rfl a0Z) held)) (a4l rfl (tup2 (a0c rfl rfl (fr0 top)) (a0c rfl rfl (fr1 top))) (by rw [length_map];exact lt_of_le_of_lt (le_trans (b5s _ _) hul) (by decide)))) (a1o (a0T (a02 rfl rfl)))
 have ixp:dIx (plsD rs top) (.int top.place)=okD (plD q):=ix_tup (by rw [getElem?_map,hpq];rfl)
 exact a0x rfl (a0b (a0p (a0c (a0c rfl rfl a0U) rfl (a3Y u top))) (a0b (a0p (pls ht.row rfl rfl)) (a0b (if_f (a0c (a0c rfl rfl (fr1 top)) (lenB (a4d rfl) (a5k _)) (eq_f (by omega))) rfl) (a0b (a0p (a0c (a0c rfl (a0c rfl rfl (fr1 top)) ixp) rfl a0U)) (a0b (a0p (a2n (a0c rfl rfl a0U) rfl (a0c rfl rfl (fr2 top)) (a73 hb okq))) (a0b (a0p rfl) (a0b (a7B (a4i (hcut rfl) rfl) e) (lst _ rfl))))))))
theorem a8q (ht:FrOk bs rs top) (he:top.place=(a0V rs top.row).pl.length):a3q [a1k bs rs,a1U (u++[top]),.tup (cs.map D.int)]=okD (.tup [])/\a1X [a1k bs rs,stD (u++[top]) cs]=okD (.tup []):=by
 have hend:a3p [a1k bs rs,top.d]=okB true:=by rw [b0G ht.row,decide_eq_true he]
 exact ⟨a0x rfl (a0b (a0p (a0c rfl rfl (a3Y u top))) (a0E (if_t (a0M rfl rfl hend) (a0T rfl)))),
  a0x rfl (a0b (a0p (a0c (a0c rfl rfl a0U) rfl (a3Y u top))) (a0b (a0p (a0c (a0c (a0c rfl rfl a0Z) (a0c rfl rfl (fr0 top)) (a7x ht.row)) rfl a2R)) (a0E (if_t (a0c (a0c rfl rfl (fr1 top)) (lenB (a4d rfl) (a5k _)) (eq_t (by omega))) (a0T rfl)))))⟩
theorem b0A {r:D} (h:a3q [a1k bs rs,a1U (u++[top]),.tup (cs.map D.int)]=okD r):a5H [a1k bs rs,stD (u++[top]) cs]=okD r:=
 a0x rfl (a0T (a2n rfl (a0c rfl rfl a0U) (a0c rfl rfl a0Z) h))
end
section
variable {bs:List Bx} {rs:List Rw} {p:List Fr} {cs:List Int} {n:Nat}
theorem WF.more (w:WF bs rs p cs n):WF bs rs p cs (n+1):=⟨w.fr,w.hd,w.len,Nat.le_succ_of_le w.most⟩
theorem WF.come (w:WF bs rs p cs n) (hb:a1A bs) (hr:∀r∈rs,∀q∈r.pl,q.1.Ok bs) {k:Nat} (hk:k<rs.length):WF bs rs (p++[a4Y k]) cs (n+1):=by
 refine ⟨fun g hg=>?_,?_,w.len,by rw [length_append,length_singleton];exact Nat.succ_le_succ w.most⟩
 ·rcases mem_append.mp hg with h|h
  ·exact w.fr g h
  ·rw [mem_singleton.mp h];exact a69 hb hr hk (zero_le _)
 ·obtain ⟨b,r,e,h0⟩:=w.hd
  exact ⟨b,r++[a4Y k],by rw [e];rfl,h0⟩
theorem WF.top (w:WF bs rs p cs n):∃u t,p=u++[t]:=by
 obtain ⟨b,r,e,_⟩:=w.hd
 have hne:p≠[]:=by rw [e];exact List.cons_ne_nil _ _
 exact ⟨p.dropLast,p.getLast hne,(List.dropLast_concat_getLast hne).symm⟩
theorem b5F {top:Fr} {k:Nat} (h:k∈a4p rs p top):k<rs.length:=by
 unfold a4p at h
 obtain ⟨j,hj,rfl⟩:=mem_map.mp h
 have:=mem_range.mp (mem_filter.mp hj).1
 omega
theorem b3A {top:Fr}:(a4p rs p top).length<=rs.length:=by
 unfold a4p
 rw [length_map]
 refine le_trans (List.length_filter_le _ _) ?_
 rw [length_range];omega
theorem a6q (l:List Nat):dLen (.lst (l.map intD))=okI (l.length:Int):=by rw [a3t,length_map]
theorem next_ok (hb:a1A bs) (hr:∀r∈rs,∀q∈r.pl,q.1.Ok bs) (hl:1<=rs.length/\rs.length<=7) (w:WF bs rs p cs n) (hn:n<=900) {c:Int} (hc:0<=c):
  ∃p' cs',a4H [a1k bs rs,stD p cs,.int c]=okD (stD p' cs')/\WF bs rs p' cs' (n+1):=by
 obtain ⟨u,top,rfl⟩:=w.top
 have hpo:∀f∈u++[top],PlaceOk rs f:=fun f hf=>(w.fr f hf).1
 have hco:=a81 (bs:=bs) hpo hl
 have hm:=b3A (rs:=rs) (p:=u++[top]) (top:=top)
 have hmem:∀k∈a4p rs (u++[top]) top,k<rs.length:=fun k hk=>b5F hk
 have hp:(u++[top]).length<=1000:=by have:=w.most;omega
 generalize a4p rs (u++[top]) top=l at hco hm hmem
 have s1:a0l a3D [(eVar 0),(eBin dIx (eVar 1) (eC (.int 0)))] [some (.sh (a1k bs rs)),some (.sh (stD (u++[top]) cs)),some (.sh (.int c)),none,none]=okL (l.map intD):=a0M rfl (a0c rfl rfl a0U) hco
 have pick:0<l.length->∃k,k<rs.length/\dIx (.lst (l.map intD)) (.int (c / 3 % (l.length:Int)))=okI (k:Nat):=fun h0=>by
  obtain ⟨j,hj⟩:∃j:Nat,c / 3 % (l.length:Int)=j:=⟨(c / 3 % (l.length:Int)).toNat,by have:=emod_nonneg (c / 3) (b:=(l.length:Int)) (by omega);omega⟩
  have hjl:j<l.length:=by have:=emod_lt_of_pos (c / 3) (b:=(l.length:Int)) (by omega);omega
  exact ⟨l[j],hmem _ (getElem_mem hjl),by rw [hj];exact b5a hjl⟩
 have comeR:∀(e4:Option S) (k:Nat),dIx (.lst (l.map intD)) (.int (c / 3 % (l.length:Int)))=okI (k:Nat)->0<l.length->(sDem 3 (sRet (a0l a3o [(eVar 1),(eBin dIx (eVar 3) (eBin dMod (eBin a4a (eVar 2) (eC (.int 3))) (a0r (f1 dLen) [(eAny 3)])))]))) [some (.sh (a1k bs rs)),some (.sh (stD (u++[top]) cs)),some (.sh (.int c)),some (.own (.lst (l.map intD))),e4]=some (.ret (.sh (stD (u++[top]++[a4Y k]) cs))):=fun e4 k hk h0=>
  a1o (a0T (a0M rfl (a0c rfl (a0c (a0c rfl rfl (a3s (by decide) (by decide))) (lenB (a4d rfl) (a6q l)) (a0P (by omega))) hk) (b1o hp cs k)))
 have rest:∃p' cs',a9r [some (.sh (a1k bs rs)),some (.sh (stD (u++[top]) cs)),some (.sh (.int c)),some (.own (.lst (l.map intD))),none]=some (.ret (.sh (stD p' cs')))/\WF bs rs p' cs' (n+1):=by
  rcases b5U hb hr w (by omega) with hbn|⟨p',cs',hbn,wf⟩
  ·by_cases h0:0<l.length
   ·obtain ⟨k,hk,ek⟩:=pick h0
    exact ⟨_,cs,a0b (a0p (a0M rfl rfl hbn)) (a0b (if_f (un_e rfl rfl) rfl) (a0E (if_t (a0c (lenB (a4d rfl) (a6q l)) rfl (gt_t (by omega))) (comeR _ k ek h0)))),w.come hb hr hk⟩
   ·exact ⟨_,cs,a0b (a0p (a0M rfl rfl hbn)) (a0b (if_f (un_e rfl rfl) rfl) (a0b (if_f (a0c (lenB (a4d rfl) (a6q l)) rfl (gt_f (by omega))) rfl) (a0T rfl))),w.more⟩
  ·exact ⟨p',cs',a0b (a0p (a0M rfl rfl hbn)) (a0E (if_t (un_e rfl rfl) (a0T rfl))),wf.more⟩
 by_cases c1:c % 3=0
 ·by_cases h0:0<l.length
  ·obtain ⟨k,hk,ek⟩:=pick h0
   exact ⟨_,cs,a0x rfl (a0b (a0p s1) (a0E (if_t (a1Y (a0c (a0c rfl rfl (a0P (by decide))) rfl (eq_t c1)) (a0c (lenB (a4d rfl) (a6q l)) rfl (gt_t (by omega)))) (comeR _ k ek h0)))),w.come hb hr hk⟩
  ·obtain ⟨p',cs',e,wf⟩:=rest
   exact ⟨p',cs',a0x rfl (a0b (a0p s1) (a0b (if_f (a1Y (a0c (a0c rfl rfl (a0P (by decide))) rfl (eq_t c1)) (a0c (lenB (a4d rfl) (a6q l)) rfl (gt_f (by omega)))) rfl) e)),wf⟩
 ·obtain ⟨p',cs',e,wf⟩:=rest
  exact ⟨p',cs',a0x rfl (a0b (a0p s1) (a0b (if_f (a46 (a0c (a0c rfl rfl (a0P (by decide))) rfl (eq_f c1))) rfl) e)),wf⟩
theorem b2A (bs:List Bx):(a2J bs).length=totB bs:=by
 have hts:∀x,x<=bs.length->((bs.take x).map fun b=>b.2.length).sum=fstB bs x:=fun x h=>by
  unfold fstB
  congr 1
  refine List.ext_getElem? fun i=>?_
  rw [getElem?_map,getElem?_map]
  by_cases hi:i<x
  ·rw [List.getElem?_take_of_lt hi,getElem?_range hi,getElem?_eq_getElem (by omega)]
   show some bs[i].2.length=some (szB bs i)
   rw [a9s (by omega)]
  ·rw [getElem?_eq_none (by rw [length_take];omega),getElem?_eq_none (by rw [length_range];omega)];rfl
 have h:=hts bs.length (le_refl _)
 rw [List.take_length] at h
 unfold a2J totB
 rw [List.length_flatten,map_map,←h]
 rfl
theorem pn_prs (l:List (Nat×Nat)) (h:l.length<=1000):Pn 2 (.tup (l.map prD)):=.tup 1 _ (fun d hd=>by
 obtain ⟨p,_,rfl⟩:=mem_map.mp hd
 exact .tup 0 _ (fun d hd=>by
  rcases mem_cons.mp hd with rfl|hd
  ·exact .int 0 _
  ·rw [mem_singleton.mp hd];exact .int 0 _) (by show 2<=lim;decide)) (by rw [length_map];exact le_trans h (by decide))
theorem body_ok {ns:List Int} (hb:a1A bs) (hr:∀r∈rs,∀q∈r.pl,q.1.Ok bs) (h4:∀r∈rs,r.pl.length<=100) (hl:1<=rs.length/\rs.length<=7) (w:WF bs rs p cs n) (hn:n<=90) (i:Int):
  ∃p' cs',b5V [some (.sh (.lst (ns.map D.int))),some (.sh (a1k bs rs)),some (.sh (stD p cs)),some (.sh (.int i))]=some (.next [some (.sh (.lst (ns.map D.int))),some (.sh (a1k bs rs)),some (.sh (stD p' cs')),some (.sh (.int i))])/\WF bs rs p' cs' (n+1):=by
 obtain ⟨p',cs',en,wf⟩:=next_ok hb hr hl w (by omega) (c:=i % 1000003) (emod_nonneg _ (by decide))
 obtain ⟨u,top,rfl⟩:=w.top
 refine ⟨p',cs',a0b (if_f (not_t ?_) rfl) (a0p (a2n rfl rfl (a0c rfl rfl (a0P (by decide))) en)),wf⟩
 have fu:∀f∈u,FrOk bs rs f:=fun f h=>w.fr f (mem_append_left _ h)
 have ft:FrOk bs rs top:=w.fr top (mem_append_right _ (mem_singleton.mpr rfl))
 have ul:u.length<=100:=by have:=w.most;rw [length_append] at this;omega
 have both:∃l:List (Nat×Nat),l.length<=1000/\a5H [a1k bs rs,stD (u++[top]) cs]=okD (.tup (l.map prD))/\a1X [a1k bs rs,stD (u++[top]) cs]=okD (.tup (l.map prD)):=by
  by_cases he:top.place=(a0V rs top.row).pl.length
  ·exact ⟨[],zero_le _,b0A (a8q ft he).1,(a8q ft he).2⟩
  ·have hpl:top.place<(a0V rs top.row).pl.length:=by have:=ft.place;omega
   obtain ⟨q,hpq⟩:∃q,(a0V rs top.row).pl[top.place]?=some q:=⟨_,getElem?_eq_getElem hpl⟩
   refine ⟨a5p bs rs cs q.1 u top,?_,b0A (b0z hb hr fu ul ft w.len hpq),a82 hb (fun r h=>⟨hr r h,h4 r h⟩) fu ul ft w.len hpq⟩
   unfold a5p lastN
   have:=b5s (a2s bs rs q.1 top.turn) u
   rw [length_append]
   split
   ·simp;omega
   ·simp;omega
 obtain ⟨l,ll,e1,e2⟩:=both
 exact a0M (a0M rfl rfl e1) (a0M rfl rfl e2) (b3H (pn_prs l ll) (by decide))
end
theorem law_true (ns:List Int) (hns:ns.length<=63):f_law [.lst (ns.map D.int)]=some (.ok (.sh (.bl true))):=by
 have m1:=a1J (ns:=ns) (k:=1) (by decide) (by decide)
 obtain ⟨b,hbb⟩:∃b:Nat,mixV ns 1 % 7=b:=⟨(mixV ns 1 % 7).toNat,by have:=emod_nonneg (mixV ns 1) (b:=7) (by decide);omega⟩
 have hb6:b<=6:=by have:=emod_lt_of_pos (mixV ns 1) (b:=7) (by decide);omega
 obtain ⟨bs,rs,hpe,ok⟩:=b2I ns (bells:=b) (longest:=4) (rest:=9) hb6 ⟨by decide,by decide⟩ ⟨by decide,by decide⟩
 have hb:=ok.box
 have hl:1<=rs.length/\rs.length<=7:=by have:=ok.len;omega
 have hr:∀r∈rs,∀q∈r.pl,q.1.Ok bs:=fun r hr q hq=>((ok.row r hr).2.2 q hq).1
 have h4:∀r∈rs,r.pl.length<=100:=fun r hr=>by have:=(ok.row r hr).2.1;omega
 have hT:=b3T hb
 have hsl:=b2A bs
 have w0:WF bs rs [a4Y 0] (a2J bs) 1:=⟨fun f hf=>by rw [mem_singleton.mp hf];exact a69 hb hr (by omega) (zero_le _),⟨_,_,rfl,rfl⟩,hsl,le_refl _⟩
 have hcut:a4Z (eVar 0) none (some (eC (.int 80))) [some (.sh (.lst (ns.map D.int))),some (.sh (a1k bs rs)),some (.sh (stD [a4Y 0] (a2J bs))),none]=okL ((ns.take (min 80 ns.length)).map D.int):=by
  show okL (((ns.map D.int).drop 0).take (sIxD (ns.map D.int).length (ns.map D.int).length (some 80) - 0))=_
  rw [List.drop_zero,Nat.sub_zero,List.map_take]
  show okL (List.take (min (80:Int).toNat (ns.map D.int).length) _)=_
  rw [length_map]
  rfl
 have hcat:dAdd (.lst [.int 0,.int 0,.int 0]) (.lst ((ns.take (min 80 ns.length)).map D.int))=okL ((0::0::0::ns.take (min 80 ns.length)).map D.int):=by
  rw [a60 (by rw [length_map,length_take];show 3+_<=_;omega)];rfl
 have hlen:(0::0::0::ns.take (min 80 ns.length)).length<=66:=by rw [length_cons,length_cons,length_cons,length_take];omega
 generalize (0::0::0::ns.take (min 80 ns.length))=its at hcat hlen
 obtain ⟨ρ',e,_⟩:=a6u (bd:=a09 3) (body:=b5V) D.int (fun q ρ=>∃(p:List Fr) (cs:List Int) (e3:Option S),WF bs rs p cs (1+q.length)/\ρ=[some (.sh (.lst (ns.map D.int))),some (.sh (a1k bs rs)),some (.sh (stD p cs)),e3]) its
  (ρ:=[some (.sh (.lst (ns.map D.int))),some (.sh (a1k bs rs)),some (.sh (stD [a4Y 0] (a2J bs))),none]) ⟨_,_,none,w0,rfl⟩ (by
   rintro q i post ρ hq ⟨p,cs,e3,w,rfl⟩
   have hql:q.length<=66:=by rw [hq,length_append] at hlen;omega
   obtain ⟨p',cs',eb,wf⟩:=body_ok (ns:=ns) hb hr h4 hl w (by omega) i
   exact ⟨_,_,rfl,.inl eb,p',cs',_,by rw [length_append,length_singleton];exact wf,rfl⟩)
 refine a0x rfl (a0b (a0p (a77 (s2:=.sh (.int (b:Int))) rfl (a0c (a0M rfl rfl m1) rfl ?_) rfl rfl hpe)) (a0b (a0p (a02 rfl (b0g hb))) (a0b (a7B (a4i (a0c (a2n rfl rfl rfl rfl) hcut hcat) rfl) e) rfl)))
 rw [S.val_sh,S.val_sh,a0P (by decide),hbb]
end Bell
set_option maxHeartbeats 8000000
namespace Bell
open PySem PySem.Spec PyProof.Rows L2 L3
def top (i:Nat):Stmt:=PySem.Challenge.pw_bellnest_k62_states_break.main.body.getD i (.Pass ⟨0,0,0,0⟩)
abbrev a3c:Stmt:=top 47
def b1a:List Str:=["_law_found","_law_due","_law_k"]
def a33:List Str:=["_law_found","_law_due"]
abbrev a3b:Stmt:=top 37
def b09:List Str:=["_law_program_here","_law_cells_here","_law_box"]
def a32:List Str:=["_law_program_here"]
abbrev a29:Stmt:=top 39
def b07:List Str:=["_law_boxes_here","_law_x","_law_first","_law_k","_law_y"]
def a3h:List Str:=["_law_boxes_here","_law_x"]
abbrev a3N:Stmt:=top 43
def b23:List Str:=["_law_boxes_here","_law_deed_here","_law_cells_here","_law_ones","_law_others","_law_k","_law_due"]
def a4A:List Str:=["_law_boxes_here","_law_deed_here","_law_cells_here"]
abbrev a2a:Stmt:=top 44
def a8R:List Str:=["_law_boxes_here","_law_deed_here","_law_turn","_law_many"]
def a2L:List Str:=["_law_boxes_here","_law_deed_here","_law_turn"]
abbrev a2C:Stmt:=top 45
def a94:List Str:=["_law_program_here","_law_state","_law_top","_law_places","_law_deed_here","_law_hit","_law_found","_law_frame","_law_below","_law_place","_law_within"]
def a3z:List Str:=["_law_program_here","_law_state"]
abbrev a28:Stmt:=top 29
def b06:List Str:=["_law_script","_law_k","_law_cell","_law_v"]
def a1y:List Str:=["_law_script","_law_k"]
abbrev a1C:Stmt:=top 41
def a7m:List Str:=["_law_turn","_law_cells_here","_law_hand","_law_at"]
def a1V:List Str:=["_law_turn","_law_cells_here","_law_hand"]
abbrev a27:Stmt:=top 40
def b05:List Str:=["_law_boxes_here","_law_deed_here","_law_own","_law_turns_here","_law_other","_law_tally","_law_k","_law_cell"]
def a30:List Str:=["_law_boxes_here","_law_deed_here"]
abbrev a2D:Stmt:=top 42
def a95:List Str:=["_law_program_here","_law_state","_law_frame","_law_under","_law_places","_law_turns_here","_law_turn","_law_done"]
def a3A:List Str:=["_law_program_here","_law_state"]
abbrev a3P:Stmt:=top 38
def b25:List Str:=["_law_state","_law_bell"]
def a4C:List Str:=["_law_state","_law_bell"]
abbrev a3L:Stmt:=top 35
def b21:List Str:=["_law_program_here","_law_frame","_law_places"]
def a4y:List Str:=["_law_program_here","_law_frame"]
abbrev a2B:Stmt:=top 36
def a93:List Str:=["_law_program_here","_law_pile","_law_shut","_law_frame","_law_floor","_law_ranks","_law_row_here","_law_k"]
def a3y:List Str:=["_law_program_here","_law_pile"]
abbrev a3M:Stmt:=top 46
def b22:List Str:=["_law_program_here","_law_state","_law_cell","_law_comers_here","_law_later"]
def a4z:List Str:=["_law_program_here","_law_state","_law_cell"]
abbrev a2A:Stmt:=top 30
def a92:List Str:=["_law_script","_law_k","_law_a","_law_b"]
def a2G:List Str:=["_law_script","_law_k"]
abbrev a3a:Stmt:=top 31
def b08:List Str:=["_law_script","_law_size","_law_many","_law_boxes_here","_law_x","_law_at","_law_starts","_law_other"]
def a31:List Str:=["_law_script"]
abbrev a3O:Stmt:=top 32
def b24:List Str:=["_law_script","_law_k","_law_boxes_here","_law_rest","_law_kind","_law_pick","_law_n","_law_x","_law_size","_law_mates","_law_mate","_law_tallies","_law_gap","_law_y","_law_t"]
def a4B:List Str:=["_law_script","_law_k","_law_boxes_here","_law_rest"]
abbrev a4u:Stmt:=top 33
def b4Q:List Str:=["_law_script","_law_k","_law_boxes_here","_law_bells","_law_longest","_law_rest","_law_places","_law_p","_law_at","_law_word_here","_law_shut"]
def a5e:List Str:=["_law_script","_law_k","_law_boxes_here","_law_bells","_law_longest","_law_rest"]
abbrev a2b:Stmt:=top 34
def a8S:List Str:=["_law_script","_law_bells","_law_longest","_law_rest","_law_boxes_here","_law_rows","_law_b","_law_at","_law_rank"]
def a2M:List Str:=["_law_script","_law_bells","_law_longest","_law_rest"]
abbrev a26:Stmt:=top 20
def b04:List Str:=["program","row"]
def a2y:List Str:=["program","row"]
abbrev a4x:Stmt:=top 21
def b4T:List Str:=["program","row","place"]
def a35:List Str:=["program","row","place"]
abbrev a3d:Stmt:=top 22
def b1b:List Str:=["program","frame"]
def a34:List Str:=["program","frame"]
abbrev a1Q:Stmt:=top 23
def a71:List Str:=["program","frame","place"]
def a2r:List Str:=["program","frame"]
abbrev a4t:Stmt:=top 2
def b4P:List Str:=["boxes","x"]
def a5d:List Str:=["boxes","x"]
abbrev a3R:Stmt:=top 3
def b27:List Str:=["boxes","x","first","k"]
def a3j:List Str:=["boxes","x"]
abbrev a05:Stmt:=top 18
def a91:List Str:=["boxes","deed","couples","number"]
def a3x:List Str:=["boxes","deed"]
abbrev a5y:Stmt:=a3l (top 5) 0
def n_i_Deed:List Str:=["self","plan"]
def a3r:List Str:=["self","plan"]
abbrev a3Q:Stmt:=a3l (top 13) 0
def b26:List Str:=["self","sources","targets","cell"]
def a3S:List Str:=["self","sources","targets"]
abbrev a5A:Stmt:=a3l (top 15) 0
def n_i_Anew:List Str:=["self","targets","sources","tally"]
def a6l:List Str:=["self","targets","sources","tally"]
abbrev a3e:Stmt:=a3l (top 6) 0
def b1c:List Str:=["self","watched"]
def a3i:List Str:=["self","watched"]
abbrev a2d:Stmt:=a3l (top 7) 0
def a8U:List Str:=["self","left","right"]
def a2O:List Str:=["self","left","right"]
abbrev a5z:Stmt:=a3l (top 11) 0
def n_i_Copy:List Str:=["self","targets","sources","k"]
def a6k:List Str:=["self","targets","sources"]
abbrev a5x:Stmt:=a3l (top 14) 0
def n_i_Grow:List Str:=["self","targets","number"]
def a6j:List Str:=["self","targets","number"]
abbrev a6E:Stmt:=a3l (top 10) 0
def n_i_Put:List Str:=["self","targets","numbers","cell"]
def a7k:List Str:=["self","targets","numbers"]
abbrev a4v:Stmt:=a3l (top 9) 0
def b4R:List Str:=["self","number"]
def a5f:List Str:=["self","number"]
abbrev a5w:Stmt:=a3l (top 12) 0
def n_i_Tick:List Str:=["self","target"]
def a6i:List Str:=["self","target"]
abbrev a2c:Stmt:=a3l (top 8) 0
def a8T:List Str:=["self"]
def a2N:List Str:=["self"]
abbrev a4w:Stmt:=top 16
def b4S:List Str:=["boxes","deed","kind","first","second"]
def a5g:List Str:=["boxes","deed"]
abbrev a2E:Stmt:=a3l (top 5) 2
def a96:List Str:=["self","turn"]
def a3B:List Str:=["self","turn"]
abbrev a2e:Stmt:=a3l (top 5) 3
def a8V:List Str:=["self","turn"]
def a2P:List Str:=["self","turn"]
abbrev a4s:Stmt:=top 24
def b4O:List Str:=["program","frame","x","deed","touched","cell"]
def a5c:List Str:=["program","frame","x"]
abbrev a3f:Stmt:=top 25
def b1d:List Str:=["program","pile","cells","top","broken","frame","place"]
def a36:List Str:=["program","pile","cells"]
abbrev a5B:Stmt:=top 27
def n_breaks:List Str:=["program","state"]
def a6m:List Str:=["program","state"]
abbrev b0P:Stmt:=top 48
def n_law:List Str:=["_law_script","_law_program_here","_law_state","_law_cell"]
def p_law:List Str:=["_law_script"]
abbrev CC:Addr:=328
abbrev PT:Addr:=324
def good:Pos->Option Str:=b5n [(114,15),(118,15),(119,11)] "promise_of.<locals>.<lambda>"
def lam0:LamT:=mkLam (stRet ((a0q a05).getD 0 (.Pass ⟨0,0,0,0⟩))) "promise_of.<locals>.<lambda>" "cells" []
def n_lam0:List Str:=["cells"]
def lam1:LamT:=mkLam (stRet ((a0q a05).getD 3 (.Pass ⟨0,0,0,0⟩))) "promise_of.<locals>.<lambda>" "cells" ["number","couples"]
def n_lam1:List Str:=["cells","number","couples","a","b"]
def lam2:LamT:=mkLam (stRet ((a0q a05).getD 4 (.Pass ⟨0,0,0,0⟩))) "promise_of.<locals>.<lambda>" "cells" ["number","couples"]
def n_lam2:List Str:=["cells","number","couples","a","b"]
def lams:Nat->Option LamT
 | 0=>some lam0
 | 1=>some lam1
 | 2=>some lam2
 | _=>none
abbrev Γc (K:Frag) (cls:String->Addr):Ct:=ctP K cls lams PT good
structure Blt (mg:Str->Option Value):Prop where
 abs:mg "abs" = none
 all:mg "all" = none
 any:mg "any" = none
 bool:mg "bool" = none
 int:mg "int" = none
 isinstance:mg "isinstance" = none
 len:mg "len" = none
 list:mg "list" = none
 min:mg "min" = none
 range:mg "range" = none
 set:mg "set" = none
 sorted:mg "sorted" = none
 str:mg "str" = none
 sum:mg "sum" = none
 tuple:mg "tuple" = none
 zip:mg "zip" = none
structure Defs (K:Frag) (mg:Str->Option Value) (cls:String->Addr):Prop where
 L_law_alike:Laid K mg "_law_alike" a3c a33
 L_law_begin:Laid K mg "_law_begin" a3b a32
 L_law_cells:Laid K mg "_law_cells" a29 a3h
 L_law_kept:Laid K mg "_law_kept" a3N a4A
 L_law_touched:Laid K mg "_law_touched" a2a a2L
 L_law_breaks:Laid K mg "_law_breaks" a2C a3z
 L_law_mixed:Laid K mg "_law_mixed" a28 a1y
 L_law_turn_done:Laid K mg "_law_turn_done" a1C a1V
 L_law_turns:Laid K mg "_law_turns" a27 a30
 L_law_behind:Laid K mg "_law_behind" a2D a3A
 L_law_come:Laid K mg "_law_come" a3P a4C
 L_law_word:Laid K mg "_law_word" a3L a4y
 L_law_comers:Laid K mg "_law_comers" a2B a3y
 L_law_next:Laid K mg "_law_next" a3M a4z
 L_law_number:Laid K mg "_law_number" a2A a2G
 L_law_boxes:Laid K mg "_law_boxes" a3a a31
 L_law_deed:Laid K mg "_law_deed" a3O a4B
 L_law_row:Laid K mg "_law_row" a4u a5e
 L_law_program:Laid K mg "_law_program" a2b a2M
 L_places_of:Laid K mg "places_of" a26 a2y
 L_deed_at:Laid K mg "deed_at" a4x a35
 L_is_at_end:Laid K mg "is_at_end" a3d a34
 L_none_watched:Laid K mg "none_watched" a1Q a2r
 L_size_of:Laid K mg "size_of" a4t a5d
 L_cells_of:Laid K mg "cells_of" a3R a3j
 L_promise_of:LaidC K mg "promise_of" a05 a3x CC
 L_i_Deed:a3K K mg cls "Deed" "Deed" "Deed.__init__" a5y a3r
 L_i_Handed:a3K K mg cls "Handed" "Handed" "Handed.__init__" a3Q a3S
 L_i_Anew:a3K K mg cls "Anew" "Anew" "Anew.__init__" a5A a6l
 L_i_Promise:a3K K mg cls "Promise" "Promise" "Promise.__init__" a3e a3i
 L_i_Comparing:a3K K mg cls "Comparing" "Comparing" "Comparing.__init__" a2d a2O
 L_i_Copy:a3K K mg cls "Copy" "Copy" "Copy.__init__" a5z a6k
 L_i_Grow:a3K K mg cls "Grow" "Grow" "Grow.__init__" a5x a6j
 L_i_Put:a3K K mg cls "Put" "Put" "Put.__init__" a6E a7k
 L_i_Still:a3K K mg cls "Still" "Still" "Still.__init__" a4v a5f
 L_i_Tick:a3K K mg cls "Tick" "Tick" "Tick.__init__" a5w a6i
 L_i_Untouched:a3K K mg cls "Untouched" "Untouched" "Untouched.__init__" a2c a2N
 L_deed_of:Laid K mg "deed_of" a4w a5g
 L_Deed_reads:b3K K cls "reads" "Deed.reads" a2E a3B ["Deed","Promise","Comparing","Untouched","Still","Put","Copy","Tick","Handed","Grow","Anew"]
 L_Deed_writes:b3K K cls "writes" "Deed.writes" a2e a2P ["Deed","Promise","Comparing","Untouched","Still","Put","Copy","Tick","Handed","Grow","Anew"]
 L_touches:Laid K mg "touches" a4s a5c
 L_broken_by:Laid K mg "broken_by" a3f a36
 L_breaks:Laid K mg "breaks" a5B a6m
 L_law:Laid K mg "law" b0P p_law
 fld_check:∀c∈["Anew"],Cls K (cls c)/\a2v K (cls c) "check"
 fld_number:∀c∈["Grow"],Cls K (cls c)/\a2v K (cls c) "number"
 fld_numbers:∀c∈["Put"],Cls K (cls c)/\a2v K (cls c) "numbers"
 fld_plan:∀c∈["Deed","Promise","Comparing","Untouched","Still","Put","Copy","Tick","Handed","Grow","Anew"],Cls K (cls c)/\a2v K (cls c) "plan"
 fld_size:∀c∈["Grow"],Cls K (cls c)/\a2v K (cls c) "size"
seal PySem.wpAny
section
variable {P:Program} {w:World} {K:Frag} {mg:Str->Option Value} {base:Heap} {cls:String->Addr}
theorem a6N:a0w b1a a33 (a0g a3c):=⟨rfl,rfl,rfl,by decide +kernel,rfl,by decide +kernel,by decide +kernel⟩
theorem a9V (L:Laid K mg "_law_alike" a3c a33) (Z:Blt mg)  : FnN P w K mg base (Γc K cls) 9 "_law_alike" a33 a39:=
 b3s (k:=1) L a6N (fun f G j hj hG cdv A outer s H E hr=>
 (a0f (a0I (PWD.pt (a4X (a3g (a5R rfl (a7u _) rfl Z.isinstance rfl Z.tuple L3.a2h (a0a (pv 1)))) (a3W (a3g (a5R rfl (a84 _) rfl Z.isinstance rfl Z.list L3.a6b (a0a (pv 1)))))))
 (a0f (a0I (PWD.pt (a1n (a3g (a5R rfl (a7u _) rfl Z.isinstance rfl Z.tuple L3.a2h (a0a (pv 1)))) (a1i (a7g (a3g (a5R rfl (a7u _) rfl Z.isinstance rfl Z.tuple L3.a2h (a0a (pv 0))))))))
 (a0h (a0m a8H))
 a0n)
 (a0f (a0I (PWD.pt (a1n (a3g (a5R rfl (a84 _) rfl Z.isinstance rfl Z.list L3.a6b (a0a (pv 1)))) (a1i (a7g (a3g (a5R rfl (a84 _) rfl Z.isinstance rfl Z.list L3.a6b (a0a (pv 0))))))))
 (a0h (a0m a8H))
 a0n)
 (a0f (a0I (a0k a5S (a0Q (a1a rfl) rfl Z.len PySem.boot_len (a0B (a0C (pv 0)) a0R)) (a0Q (a1a rfl) rfl Z.len PySem.boot_len (a0B (a0C (pv 1)) a0R)))
 (a0h (a0m a8H))
 a0n)
 (a0h (a0m (a6O (b5I rfl rfl) rfl Z.all L3.b5R (a1j (a1R (js:=[2]) (vars:=[".0","_law_k"]) (a06 2) (by rfl) (by rfl) rfl (a1b rfl Z.range (a0Q (a1a rfl) rfl Z.len PySem.boot_len (a0B (a0C (pv 1)) a0R))) (fun _ _ _ _=>(pbN a6N.nd rfl)) (fun _ _ _ _=>(a03 hG hr rfl (padS (a0i (ixd rfl) (a0a (pv 0)) (a0a (pv 2))) (padS (a0i (ixd rfl) (a0a (pv 1)) (a0a (pv 2))) a0e))))) a0e)))))))
 a0n)
 (a0f (a0I (ptd_isN (a0a (pv 1)))
 (a0h (a0m (pd_isN (a0a (pv 0)))))
 a0n)
 (a0f (a0I (a3g (a5R rfl (b49 _) rfl Z.isinstance rfl Z.str L3.bt_str (a0a (pv 1))))
 (a0h (a0m (b4B (a5R rfl (b49 _) rfl Z.isinstance rfl Z.str L3.bt_str (a0a (pv 0))) (b4y (a6h a0D (a0a (pv 0)) (a0a (pv 1)))))))
 a0n)
 (a0h (a0m (b4B (a5R rfl (kit_int _) rfl Z.isinstance rfl Z.int L3.bt_int (a0a (pv 0))) (b4B (pd_not (a5R rfl (kit_bool _) rfl Z.isinstance rfl Z.bool L3.bt_bool (a0a (pv 0)))) (b4y (a6h a0D (a0a (pv 0)) (a0a (pv 1)))))))))))) 8
theorem a4g:a0w b09 a32 (a0g a3b):=⟨rfl,rfl,rfl,by decide +kernel,rfl,by decide +kernel,by decide +kernel⟩
theorem a9U (L:Laid K mg "_law_begin" a3b a32) (Z:Blt mg)  : FnN P w K mg base (Γc K cls) 1 "_law_begin" a32 a4R:=
 a1c (k:=0) L a4g fun f cdv A outer s H E hr=>
 (a0f (psS (i:=1) a4g.nd rfl (a1w a0e))
 (a0f (a4n PassesOwn.never rfl (a2K rfl (a0i (ixd rfl) (a0a (pv 0)) a0d)) (pbN a4g.nd rfl)
 (a0A (i:=1) (a0h (psS (i:=1) a4g.nd rfl (a0s (a0t rfl) (a0a (pv 1)) (a51 (a9g rfl) rfl Z.list L3.a6b (padS (a0i (ixd rfl) (a0a (pv 2)) a0d) a0e)))))))
 (a0A (i:=1) (a0h (a0m (a0u (padT (a0u (padT (a0u (padC a0d (padC a0d (padC a0d (padT (a0u a0e) a0e))))) a0e)) (padK (a51 (a3u rfl) rfl Z.tuple L3.a2h (padN (a0a (pv 1)) a0e)) a0e))))))))
theorem a4f:a0w b07 a3h (a0g a29):=⟨rfl,rfl,rfl,by decide +kernel,rfl,by decide +kernel,by decide +kernel⟩
theorem a9S (L:Laid K mg "_law_cells" a29 a3h) (Z:Blt mg)  : FnN P w K mg base (Γc K cls) 1 "_law_cells" a3h a1z:=
 a1c (k:=0) L a4f fun f cdv A outer s H E hr=>
 (a0f (psS (i:=2) a4f.nd rfl (a6O (cd_sum rfl rfl) rfl Z.sum L3.bt_sum (a1j (a1R (js:=[4]) (vars:=[".0","_law_y"]) (a06 4) (by rfl) (by rfl) rfl (a1b rfl Z.range (a0a (pv 1))) (fun _ _ _ _=>(pbN a4f.nd rfl)) (fun _ _ _ _=>(a0Q (a1a rfl) rfl Z.len PySem.boot_len (a0B (PD.look (a0i (ixd rfl) (a0i (ixd rfl) (a0a (pv 0)) (a0a (pv 4))) a0d)) a0R)))) a0e)))
 (a0h (a0m (a1R (js:=[3]) (vars:=[".0","_law_k"]) (a06 3) (by rfl) (by rfl) rfl (a1b rfl Z.range (a0Q (a1a rfl) rfl Z.len PySem.boot_len (a0B (PD.look (a0i (ixd rfl) (a0i (ixd rfl) (a0a (pv 0)) (a0a (pv 1))) a0d)) a0R))) (fun _ _ _ _=>(pbN a4f.nd rfl)) (fun _ _ _ _=>(a0s (a0t rfl) (a0a (pv 2)) (a0a (pv 3))))))))
theorem a3U:a0w b23 a4A (a0g a3N):=⟨rfl,rfl,rfl,by decide +kernel,rfl,by decide +kernel,by decide +kernel⟩
theorem b0X (L:Laid K mg "_law_kept" a3N a4A) (Z:Blt mg) (H_law_cells:FnN P w K mg base (Γc K cls) 1 "_law_cells" a3h a1z):FnN P w K mg base (Γc K cls) 2 "_law_kept" a4A a3m:=
 a1c (k:=1) L a3U fun f cdv A outer s H E hr=>
 (a0f (a0I (PWD.pt (a1n (a0k a5S (a0i (ixd rfl) (a0a (pv 1)) a0d) a0K) (a1i (a0k a5S (a0i (ixd rfl) (a0a (pv 1)) a0d) a0K))))
 (a0h (a0m a8H))
 a0n)
 (a0f (psS (i:=3) a3U.nd rfl (a03 H_law_cells (hr.mono (by first|decide|omega)) rfl (padN (a0a (pv 0)) (padS (a0i (ixd rfl) (a0a (pv 1)) a0d) a0e))))
 (a0f (psS (i:=4) a3U.nd rfl (a03 H_law_cells (hr.mono (by first|decide|omega)) rfl (padN (a0a (pv 0)) (padS (a0i (ixd rfl) (a0a (pv 1)) a0d) a0e))))
 (a0f (a4n PassesOwn.never rfl (a1b rfl Z.range (a0Q (a1a rfl) rfl Z.len PySem.boot_len (a0B (a0C (pv 3)) a0R))) (pbN a3U.nd rfl)
 (a0A (i:=4) (a0f (psS (i:=6) a3U.nd rfl (a0s (a0t rfl) (a0i (ixd rfl) (a0a (pv 2)) (a0i (ixd rfl) (a0a (pv 4)) (a0a (pv 5)))) (a0i (ixd rfl) (a0a (pv 1)) a0d)))
 (a0A (i:=3) (a0h (a0I (PWD.pt (a4X (a0k a5T (a0i (ixd rfl) (a0a (pv 2)) (a0i (ixd rfl) (a0a (pv 3)) (a0a (pv 5)))) (a0a (pv 6))) (a3W (PWD.pt (a1n (a0k a0D (a0i (ixd rfl) (a0a (pv 1)) a0d) a0K) (a1i (a0k opd_lt (a0i (ixd rfl) (a0a (pv 2)) (a0i (ixd rfl) (a0a (pv 3)) (a0a (pv 5)))) (a0a (pv 6)))))))))
 (a0h (a0m a8H))
 a0n))))))
 (a0h (a0m a8H))))))
theorem a5P:a0w a8R a2L (a0g a2a):=⟨rfl,rfl,rfl,by decide +kernel,rfl,by decide +kernel,by decide +kernel⟩
theorem a7W (L:Laid K mg "_law_touched" a2a a2L) (Z:Blt mg)  : FnN P w K mg base (Γc K cls) 1 "_law_touched" a2L a2g:=
 a1c (k:=0) L a5P fun f cdv A outer s H E hr=>
 (a0f (a0I (PWD.pt (a4X (a0k a0D (a0i (ixd rfl) (a0a (pv 1)) a0d) a0K) (a3W (a0k a0D (a0i (ixd rfl) (a0a (pv 1)) a0d) a0K))))
 (a0h (a0m (a1w a0e)))
 a0n)
 (a0f (a0I (PWD.pt (a4X (a0k a0D (a0i (ixd rfl) (a0a (pv 1)) a0d) a0K) (a4X (a0k a0D (a0i (ixd rfl) (a0a (pv 1)) a0d) a0K) (a3W (a0k a0D (a0i (ixd rfl) (a0a (pv 1)) a0d) a0K)))))
 (a0h (a0m (a1w (padS (a0i (ixd rfl) (a0a (pv 1)) a0d) (padS (a0i (ixd rfl) (a0a (pv 1)) a0d) a0e)))))
 a0n)
 (a0f (psS (i:=3) a5P.nd rfl (a0Q (a1a rfl) rfl Z.len PySem.boot_len (a0B (PD.look (a0i (ixd rfl) (a0i (ixd rfl) (a0a (pv 0)) (a0i (ixd rfl) (a0a (pv 1)) a0d)) a0d)) a0R)))
 (a0f (a0I (PWD.pt (a1n (a0k a0D (a0i (ixd rfl) (a0a (pv 1)) a0d) a0K) (a1i (PWD.pt (a4X (a0k a0D (a0a (pv 2)) a0d) (a3W (a0k a0D (a0a (pv 2)) (a0s (a0t rfl) (a0a (pv 3)) a0d))))))))
 (a0h (a0m (a1w (padS (a0i (ixd rfl) (a0a (pv 1)) a0d) a0e))))
 a0n)
 (a0f (a0I (PWD.pt (a1n (a0k a0D (a0i (ixd rfl) (a0a (pv 1)) a0d) a0K) (a1i (a0k b4F (a0a (pv 2)) (a0a (pv 3))))))
 (a0h (a0m (a1w (padS (a0i (ixd rfl) (a0a (pv 1)) a0d) a0e))))
 a0n)
 (a0h (a0m (a1w (padS (a0i (ixd rfl) (a0a (pv 1)) a0d) a0e)))))))))
theorem a1g:a0w a94 a3z (a0g a2C):=⟨rfl,rfl,rfl,by decide +kernel,rfl,by decide +kernel,by decide +kernel⟩
theorem a8N (L:Laid K mg "_law_breaks" a2C a3z) (Z:Blt mg) (H_law_kept:FnN P w K mg base (Γc K cls) 2 "_law_kept" a4A a3m) (H_law_touched:FnN P w K mg base (Γc K cls) 1 "_law_touched" a2L a2g):FnN P w K mg base (Γc K cls) 3 "_law_breaks" a3z a1X:=
 a1c (k:=2) L a1g fun f cdv A outer s H E hr=>
 (a0f (psS (i:=2) a1g.nd rfl (a0i (ixd rfl) (a0i (ixd rfl) (a0a (pv 1)) a0d) a7j))
 (a0f (psS (i:=3) a1g.nd rfl (a0i (ixd rfl) (a0i (ixd rfl) (a0i (ixd rfl) (a0a (pv 0)) a0d) (a0i (ixd rfl) (a0a (pv 2)) a0d)) a0d))
 (a0f (a0I (a0k a0D (a0i (ixd rfl) (a0a (pv 2)) a0d) (a0Q (a1a rfl) rfl Z.len PySem.boot_len (a0B (a0C (pv 3)) a0R)))
 (a0h (a0m (a0u a0e)))
 a0n)
 (a0f (psS (i:=4) a1g.nd rfl (a0i (ixd rfl) (a0i (ixd rfl) (a0a (pv 3)) (a0i (ixd rfl) (a0a (pv 2)) a0d)) a0d))
 (a0f (psS (i:=5) a1g.nd rfl (a03 H_law_touched (hr.mono (by first|decide|omega)) rfl (padS (a0i (ixd rfl) (a0a (pv 0)) a0d) (padN (a0a (pv 4)) (padS (a0i (ixd rfl) (a0a (pv 2)) a0d) a0e)))))
 (a0f (psS (i:=6) a1g.nd rfl (a1w a0e))
 (a0f (a4n PassesOwn.never rfl (a2K rfl (a67 rfl (a0i (ixd rfl) (a0a (pv 1)) a0d) a65 (a64 a7j))) (pbN a1g.nd rfl)
 (a0f (psS (i:=8) a1g.nd rfl (a0i (ixd rfl) (a0i (ixd rfl) (a0i (ixd rfl) (a0a (pv 0)) a0d) (a0i (ixd rfl) (a0a (pv 7)) a0d)) a0d))
 (a0h (a4n PassesOwn.never rfl (a8j rfl Z.range (a0i (ixd rfl) (a0a (pv 7)) a0d) (a6O (cd_min2 rfl) rfl Z.min L3.bt_min (padB (a0s (a0t rfl) (a0i (ixd rfl) (a0a (pv 7)) a0d) a0d) (padK (a0Q (a1a rfl) rfl Z.len PySem.boot_len (a0B (a0C (pv 8)) a0R)) a0e)))) (pbN a1g.nd rfl)
 (a0f (psS (i:=10) a1g.nd rfl (pd_or (a6h a0D (a0a (pv 9)) (a0i (ixd rfl) (a0a (pv 7)) a0d)) (b4y (a6h a5T (a0i (ixd rfl) (a0a (pv 7)) a0d) a0d))))
 (a0A (i:=5) (a0h (a0I (PWD.pt (a1n (a3g (a0a (pv 10))) (a1n (a0k a0D (a0i (ixd rfl) (a0i (ixd rfl) (a0i (ixd rfl) (a0a (pv 8)) (a0a (pv 9))) a0d) a0d) a0K) (a1i (a0k (opd_in rfl) (a0i (ixd rfl) (a0i (ixd rfl) (a0i (ixd rfl) (a0a (pv 8)) (a0a (pv 9))) a0d) a0d) (a0a (pv 5)) (by with_unfolding_all rfl))))))
 (a0h (a2F (i:=6) (pv 6) (a0u (padS (a0i (ixd rfl) (a0a (pv 7)) a0d) (padN (a0a (pv 9)) a0e)))))
 a0n))))))))
 (a0f (a0I (a7g (a3g (a03 H_law_kept (hr.mono (by first|decide|omega)) rfl (padS (a0i (ixd rfl) (a0a (pv 0)) a0d) (padN (a0a (pv 4)) (padS (a0i (ixd rfl) (a0a (pv 1)) a0d) a0e))))))
 (a0h (a2F (i:=6) (pv 6) (a0u (padS (a0i (ixd rfl) (a0a (pv 2)) a0d) (padS (a0i (ixd rfl) (a0a (pv 2)) a0d) a0e)))))
 a0n)
 (a0A (i:=6) (a0h (a0m (a51 (a3u rfl) rfl Z.tuple L3.a2h (padN (a0a (pv 6)) a0e)))))))))))))
theorem a4e:a0w b06 a1y (a0g a28):=⟨rfl,rfl,rfl,by decide +kernel,rfl,by decide +kernel,by decide +kernel⟩
theorem a9R (L:Laid K mg "_law_mixed" a28 a1y) (Z:Blt mg)  : FnN P w K mg base (Γc K cls) 1 "_law_mixed" a1y a0y:=
 a1c (k:=0) L a4e fun f cdv A outer s H E hr=>
 (a0f (psS (i:=2) a4e.nd rfl a0d)
 (a0f (a0I (a0k a5T (a0Q (a1a rfl) rfl Z.len PySem.boot_len (a0B (a0C (pv 0)) a0R)) a0d)
 (a0h (psS (i:=2) a4e.nd rfl (a0i (ixd rfl) (a0a (pv 0)) (a0s a01 (a0a (pv 1)) (a0Q (a1a rfl) rfl Z.len PySem.boot_len (a0B (a0C (pv 0)) a0R))))))
 a0n)
 (a0f (psS (i:=3) a4e.nd rfl (a0s a01 (a0s (a0t rfl) (a0s (a0t rfl) (a0s a38 (a0s a01 (a0a (pv 2)) a0d) a0d) (a0s a38 (a0s a38 (a0a (pv 1)) (a0a (pv 1))) a0d)) a0d) a0d))
 (a0h (a0m (a0s a01 (a0s a38 (a0a (pv 3)) (a0a (pv 3))) a0d))))))
theorem a2w:a0w a7m a1V (a0g a1C):=⟨rfl,rfl,rfl,by decide +kernel,rfl,by decide +kernel,by decide +kernel⟩
theorem a6V (L:Laid K mg "_law_turn_done" a1C a1V) (Z:Blt mg)  : FnN P w K mg base (Γc K cls) 1 "_law_turn_done" a1V a2T:=
 a1c (k:=0) L a2w fun f cdv A outer s H E hr=>
 (a0A (i:=1) (a0f (psS (i:=1) a2w.nd rfl (a51 (a9g rfl) rfl Z.list L3.a6b (padN (a0a (pv 1)) a0e)))
 (a0f (psS (i:=3) a2w.nd rfl (a0i (ixd rfl) (a0a (pv 0)) a0d))
 (a0f (a0I (a0k a0D (a0i (ixd rfl) (a0a (pv 0)) a0d) a0K)
 (a0h (a4K (i:=1) (pv 1) (a0a (pv 3)) (a0i (ixd rfl) (a0a (pv 0)) a0d)))
 a0n)
 (a0f (a0I (a0k a0D (a0i (ixd rfl) (a0a (pv 0)) a0d) a0K)
 (a0h (a4K (i:=1) (pv 1) (a0a (pv 3)) (a0s (a0t rfl) (pd_ixB rfl (a0C (pv 1)) (PD.look (a0a (pv 3)))) a0d)))
 a0n)
 (a0f (a0I (a0k a0D (a0i (ixd rfl) (a0a (pv 0)) a0d) a0K)
 (a0h (a4K (i:=1) (pv 1) (a0a (pv 3)) (pd_ixB rfl (a0C (pv 1)) (PD.look (a0i (ixd rfl) (a0a (pv 0)) a0d)))))
 a0n)
 (a0f (a0I (a0k a0D (a0i (ixd rfl) (a0a (pv 0)) a0d) a0K)
 (a0A (i:=1) (a0h (psS (i:=2) a2w.nd rfl (a0s (a0t rfl) (a0a (pv 2)) (a0u (padS (a0i (ixd rfl) (a0a (pv 1)) (a0a (pv 3))) a0e))))))
 a0n)
 (a0f (a0I (a0k a0D (a0i (ixd rfl) (a0a (pv 0)) a0d) a0K)
 (a0h (a4K (i:=1) (pv 1) (a0a (pv 3)) (a0s (a0t rfl) (a0i (ixd rfl) (a0a (pv 2)) (a0i (ixd rfl) (a0i (ixd rfl) (a0a (pv 0)) a0d) a0d)) (a0i (ixd rfl) (a0i (ixd rfl) (a0a (pv 0)) a0d) a0d))))
 a0n)
 (a0A (i:=1) (a0h (a0m (a0u (padK (a51 (a3u rfl) rfl Z.tuple L3.a2h (padN (a0a (pv 1)) a0e)) (padN (a0a (pv 2)) a0e))))))))))))))
theorem a04:a0w b05 a30 (a0g a27):=⟨rfl,rfl,rfl,by decide +kernel,rfl,by decide +kernel,by decide +kernel⟩
theorem a9Q (L:Laid K mg "_law_turns" a27 a30) (Z:Blt mg) (H_law_cells:FnN P w K mg base (Γc K cls) 1 "_law_cells" a3h a1z):FnN P w K mg base (Γc K cls) 2 "_law_turns" a30 a4P:=
 a1c (k:=1) L a04 fun f cdv A outer s H E hr=>
 (a0f (a0I (a0k a0D (a0i (ixd rfl) (a0a (pv 1)) a0d) a0K)
 (a0h (a0m (a1R (js:=[6]) (vars:=[".0","_law_k"]) (a06 6) (by rfl) (by rfl) rfl (a1b rfl Z.range (a0i (ixd rfl) (a0a (pv 1)) a0d)) (fun _ _ _ _=>(pbN a04.nd rfl)) (fun _ _ _ _=>(a0u (padC a0K (padC a0d (padC a0d a0e))))))))
 a0n)
 (a0f (psS (i:=2) a04.nd rfl (a03 H_law_cells (hr.mono (by first|decide|omega)) rfl (padN (a0a (pv 0)) (padS (a0i (ixd rfl) (a0a (pv 1)) a0d) a0e))))
 (a0f (a0I (a0k a0D (a0i (ixd rfl) (a0a (pv 1)) a0d) a0K)
 (a0A (i:=2) (a0h (a0m (a1R (js:=[6]) (vars:=[".0","_law_k"]) (a06 6) (by rfl) (by rfl) rfl (a1b rfl Z.range (a0Q (a1a rfl) rfl Z.len PySem.boot_len (a0B (a0C (pv 2)) a0R))) (fun _ _ _ _=>(pbN a04.nd rfl)) (fun _ _ _ _=>(a0u (padC a0K (padS (a0i (ixd rfl) (a0a (pv 2)) (a0a (pv 6))) (padS (a0i (ixd rfl) (a0i (ixd rfl) (a0a (pv 1)) a0d) (a0a (pv 6))) a0e)))))))))
 a0n)
 (a0f (a0I (a0k a0D (a0i (ixd rfl) (a0a (pv 1)) a0d) a0K)
 (a0A (i:=2) (a0h (a0m (a1w (padT (a0u (padC a0K (padS (a0i (ixd rfl) (a0a (pv 2)) a0d) (padC a0d a0e)))) a0e)))))
 a0n)
 (a0f (a0I (a0k a0D (a0i (ixd rfl) (a0a (pv 1)) a0d) a0K)
 (a0A (i:=2) (a0f (psd_comp (i:=3) a04.nd rfl (by first|exact Or.inl rfl|exact Or.inr rfl) (js:=[7]) (vars:=[".0","_law_cell"]) (a06 7) (by rfl) (by rfl) rfl (a2K rfl (a0a (pv 2))) (fun _ _ _ _=>(pbN a04.nd rfl)) (fun _ _ _ _=>(a0u (padC a0K (padN (a0a (pv 7)) (padC a0d a0e))))))
 (a0A (i:=3) (a0A (i:=2) (a0h (a0m (a0s (a0t rfl) (a0a (pv 3)) (a1R (js:=[6]) (vars:=[".0","_law_k"]) (a06 6) (by rfl) (by rfl) rfl (a1b rfl Z.range (a0Q (a1a rfl) rfl Z.len PySem.boot_len (a0B (a0C (pv 2)) a0R))) (fun _ _ _ _=>(pbN a04.nd rfl)) (fun _ _ _ _=>(a0u (padC a0K (padS (a0i (ixd rfl) (a0a (pv 2)) (a0a (pv 6))) (padT (a0u (padN (a0a (pv 6)) (padS (a0i (ixd rfl) (a0a (pv 1)) a0d) a0e))) a0e)))))))))))))
 a0n)
 (a0f (a0I (a0k a0D (a0i (ixd rfl) (a0a (pv 1)) a0d) a0K)
 (a0f (psS (i:=4) a04.nd rfl (a03 H_law_cells (hr.mono (by first|decide|omega)) rfl (padN (a0a (pv 0)) (padS (a0i (ixd rfl) (a0a (pv 1)) a0d) a0e))))
 (a0A (i:=4) (a0A (i:=2) (a0h (a0m (a1R (js:=[6]) (vars:=[".0","_law_k"]) (a06 6) (by rfl) (by rfl) rfl (a1b rfl Z.range (a0Q (a1a rfl) rfl Z.len PySem.boot_len (a0B (a0C (pv 2)) a0R))) (fun _ _ _ _=>(pbN a04.nd rfl)) (fun _ _ _ _=>(a0u (padC a0K (padS (a0i (ixd rfl) (a0a (pv 2)) (a0a (pv 6))) (padS (a0i (ixd rfl) (a0a (pv 4)) (a0a (pv 6))) a0e)))))))))))
 a0n)
 (a0f (a0I (a0k a0D (a0i (ixd rfl) (a0a (pv 1)) a0d) a0K)
 (a0f (psS (i:=5) a04.nd rfl (a0i (ixd rfl) (a03 H_law_cells (hr.mono (by first|decide|omega)) rfl (padN (a0a (pv 0)) (padS (a0i (ixd rfl) (a0a (pv 1)) a0d) a0e))) a0d))
 (a0f (psS (i:=3) a04.nd rfl (a0s (a0t rfl) (a1w (padT (a0u (padC a0K (padN (a0a (pv 5)) (padC a0d a0e)))) a0e)) (a1R (js:=[7]) (vars:=[".0","_law_cell"]) (a06 7) (by rfl) (by rfl) rfl (a2K rfl (a03 H_law_cells (hr.mono (by first|decide|omega)) rfl (padN (a0a (pv 0)) (padS (a0i (ixd rfl) (a0a (pv 1)) a0d) a0e)))) (fun _ _ _ _=>(pbN a04.nd rfl)) (fun _ _ _ _=>(a0u (padC a0K (padN (a0a (pv 7)) (padC a0d a0e))))))))
 (a0A (i:=3) (a0A (i:=2) (a0h (a0m (a0s (a0t rfl) (a0s (a0t rfl) (a0a (pv 3)) (a1w (padT (a0u (padC a0K (padN (a0a (pv 5)) (padC a0d a0e)))) a0e))) (a1R (js:=[6]) (vars:=[".0","_law_k"]) (a06 6) (by rfl) (by rfl) rfl (a1b rfl Z.range (a0Q (a1a rfl) rfl Z.len PySem.boot_len (a0B (a0C (pv 2)) a0R))) (fun _ _ _ _=>(pbN a04.nd rfl)) (fun _ _ _ _=>(a0u (padC a0K (padS (a0i (ixd rfl) (a0a (pv 2)) (a0a (pv 6))) (padT (a0u (padB (a0s (a0t rfl) (a0a (pv 6)) a0d) (padC a0d a0e))) a0e)))))))))))))
 a0n)
 (a0h (a0m (a1w (padT (a0u (padC a0K (padC a0d (padC a0d a0e)))) a0e)))))))))))
theorem a1F:a0w a95 a3A (a0g a2D):=⟨rfl,rfl,rfl,by decide +kernel,rfl,by decide +kernel,by decide +kernel⟩
theorem a8O (L:Laid K mg "_law_behind" a2D a3A) (Z:Blt mg) (H_law_turn_done:FnN P w K mg base (Γc K cls) 1 "_law_turn_done" a1V a2T) (H_law_turns:FnN P w K mg base (Γc K cls) 2 "_law_turns" a30 a4P):FnN P w K mg base (Γc K cls) 3 "_law_behind" a3A a2I:=
 a1c (k:=2) L a1F fun f cdv A outer s H E hr=>
 (a0f (psS (i:=2) a1F.nd rfl (a0i (ixd rfl) (a0i (ixd rfl) (a0a (pv 1)) a0d) a7j))
 (a0f (psS (i:=3) a1F.nd rfl (a67 rfl (a0i (ixd rfl) (a0a (pv 1)) a0d) a65 (a64 a7j)))
 (a0f (psS (i:=4) a1F.nd rfl (a0i (ixd rfl) (a0i (ixd rfl) (a0i (ixd rfl) (a0a (pv 0)) a0d) (a0i (ixd rfl) (a0a (pv 2)) a0d)) a0d))
 (a0f (a0I (a0k a0D (a0i (ixd rfl) (a0a (pv 2)) a0d) (a0Q (a1a rfl) rfl Z.len PySem.boot_len (a0B (a0C (pv 4)) a0R)))
 (a0h (a0m pd_non))
 a0n)
 (a0f (psS (i:=5) a1F.nd rfl (a03 H_law_turns (hr.mono (by first|decide|omega)) rfl (padS (a0i (ixd rfl) (a0a (pv 0)) a0d) (padS (a0i (ixd rfl) (a0i (ixd rfl) (a0a (pv 4)) (a0i (ixd rfl) (a0a (pv 2)) a0d)) a0d) a0e))))
 (a0A (i:=5) (a0f (psS (i:=6) a1F.nd rfl (a0i (ixd rfl) (a0a (pv 5)) (a0i (ixd rfl) (a0a (pv 2)) a0d)))
 (a0f (psS (i:=7) a1F.nd rfl (a03 H_law_turn_done (hr.mono (by first|decide|omega)) rfl (padN (a0a (pv 6)) (padS (a0i (ixd rfl) (a0a (pv 1)) a0d) (padS (a0i (ixd rfl) (a0a (pv 2)) a0d) a0e)))))
 (a0f (a0I (PWD.pt (a1n (a0k a0D (a0i (ixd rfl) (a0a (pv 6)) a0d) a0K) (a1i (a0k a5S (a0i (ixd rfl) (a0i (ixd rfl) (a0a (pv 1)) a0d) (a0i (ixd rfl) (a0a (pv 6)) a0d)) (a0i (ixd rfl) (a0i (ixd rfl) (a0a (pv 2)) a0d) a0d)))))
 (a0h (a0m (a0u (padB (a0s (a0t rfl) (a0a (pv 3)) (a0u (padT (a0u (padS (a0i (ixd rfl) (a0a (pv 2)) a0d) (padS (a0i (ixd rfl) (a0a (pv 2)) a0d) (padC a0d (padT (a0u a0e) a0e))))) a0e))) (padS (a0i (ixd rfl) (a0a (pv 7)) a0d) a0e)))))
 a0n)
 (a0f (a0I (a0k opd_lt (a0s (a0t rfl) (a0i (ixd rfl) (a0a (pv 2)) a0d) a0d) (a0Q (a1a rfl) rfl Z.len PySem.boot_len (a0B (a0C (pv 5)) a0R)))
 (a0h (a0m (a0u (padB (a0s (a0t rfl) (a0a (pv 3)) (a0u (padT (a0u (padS (a0i (ixd rfl) (a0a (pv 2)) a0d) (padS (a0i (ixd rfl) (a0a (pv 2)) a0d) (padB (a0s (a0t rfl) (a0i (ixd rfl) (a0a (pv 2)) a0d) a0d) (padS (a0i (ixd rfl) (a0a (pv 7)) a0d) a0e))))) a0e))) (padS (a0i (ixd rfl) (a0a (pv 7)) a0d) a0e)))))
 a0n)
 (a0f (a0I (PWD.pt (a1n (a0k a5T (a0i (ixd rfl) (a0a (pv 2)) a0d) a0d) (a1i (a0k a0D (a0s (a0t rfl) (a0i (ixd rfl) (a0a (pv 2)) a0d) a0d) (a0Q (a1a rfl) rfl Z.len PySem.boot_len (a0B (a0C (pv 4)) a0R))))))
 (a0h (a0m (a0u (padN (a0a (pv 3)) (padS (a0i (ixd rfl) (a0a (pv 7)) a0d) a0e)))))
 a0n)
 (a0h (a0m (a0u (padB (a0s (a0t rfl) (a0a (pv 3)) (a0u (padT (a0u (padS (a0i (ixd rfl) (a0a (pv 2)) a0d) (padB (a0s (a0t rfl) (a0i (ixd rfl) (a0a (pv 2)) a0d) a0d) (padC a0d (padT (a0u a0e) a0e))))) a0e))) (padS (a0i (ixd rfl) (a0a (pv 7)) a0d) a0e))))))))))))))))
theorem b0O:a0w b25 a4C (a0g a3P):=⟨rfl,rfl,rfl,by decide +kernel,rfl,by decide +kernel,by decide +kernel⟩
theorem b0Z (L:Laid K mg "_law_come" a3P a4C) (Z:Blt mg)  : FnN P w K mg base (Γc K cls) 1 "_law_come" a4C a3o:=
 a1c (k:=0) L b0O fun f cdv A outer s H E hr=>
 (a0h (a0m (a0u (padB (a0s (a0t rfl) (a0i (ixd rfl) (a0a (pv 0)) a0d) (a0u (padT (a0u (padN (a0a (pv 1)) (padC a0d (padC a0d (padT (a0u a0e) a0e))))) a0e))) (padS (a0i (ixd rfl) (a0a (pv 0)) a0d) a0e)))))
theorem a7e:a0w b21 a4y (a0g a3L):=⟨rfl,rfl,rfl,by decide +kernel,rfl,by decide +kernel,by decide +kernel⟩
theorem b0V (L:Laid K mg "_law_word" a3L a4y) (Z:Blt mg)  : FnN P w K mg base (Γc K cls) 1 "_law_word" a4y a4F:=
 a1c (k:=0) L a7e fun f cdv A outer s H E hr=>
 (a0f (psS (i:=2) a7e.nd rfl (a0i (ixd rfl) (a0i (ixd rfl) (a0i (ixd rfl) (a0a (pv 0)) a0d) (a0i (ixd rfl) (a0a (pv 1)) a0d)) a0d))
 (a0f (a0I (a0k a0D (a0i (ixd rfl) (a0a (pv 1)) a0d) (a0Q (a1a rfl) rfl Z.len PySem.boot_len (a0B (a0C (pv 2)) a0R)))
 (a0h (a0m a0d))
 a0n)
 (a0h (a0m (a0i (ixd rfl) (a0i (ixd rfl) (a0a (pv 2)) (a0i (ixd rfl) (a0a (pv 1)) a0d)) a0d)))))
theorem a1t:a0w a93 a3y (a0g a2B):=⟨rfl,rfl,rfl,by decide +kernel,rfl,by decide +kernel,by decide +kernel⟩
theorem a8M (L:Laid K mg "_law_comers" a2B a3y) (Z:Blt mg) (H_law_word:FnN P w K mg base (Γc K cls) 1 "_law_word" a4y a4F):FnN P w K mg base (Γc K cls) 2 "_law_comers" a3y a3D:=
 a1c (k:=1) L a1t fun f cdv A outer s H E hr=>
 (a0f (psS (i:=2) a1t.nd rfl a0d)
 (a0f (a4n PassesOwn.never rfl (a2K rfl (a0a (pv 1))) (pbN a1t.nd rfl)
 (a0h (psS (i:=2) a1t.nd rfl (a0s opd_bor (a0a (pv 2)) (a03 H_law_word (hr.mono (by first|decide|omega)) rfl (padN (a0a (pv 0)) (padN (a0a (pv 3)) a0e)))))))
 (a0f (psS (i:=4) a1t.nd rfl (a0i (ixd rfl) (a0i (ixd rfl) (a0i (ixd rfl) (a0a (pv 0)) a0d) (a0i (ixd rfl) (a0i (ixd rfl) (a0a (pv 1)) a7j) a0d)) a0d))
 (a0f (psS (i:=5) a1t.nd rfl (a1R (js:=[6]) (vars:=[".0","_law_row_here"]) (a06 6) (by rfl) (by rfl) rfl (a2K rfl (a0i (ixd rfl) (a0a (pv 0)) a0d)) (fun _ _ _ _=>(pbN a1t.nd rfl)) (fun _ _ _ _=>(a0i (ixd rfl) (a0a (pv 6)) a0d))))
 (a0A (i:=5) (a0h (a0m (b4A (js:=[7]) (vars:=[".0","_law_k"]) (a06 7) (by rfl) (by rfl) rfl (a8j rfl Z.range a0d (a0Q (a1a rfl) rfl Z.len PySem.boot_len (a0B (a0C (pv 5)) a0R))) (fun _ _ _ _=>(pbN a1t.nd rfl)) (fun _ _ _ _=>(PWD.pt (a1n (a0k a5T (a0i (ixd rfl) (a0a (pv 5)) (a0a (pv 7))) (a0a (pv 4))) (a1i (a0k a0D (a0s a01 (a0s a3I (a0a (pv 2)) (a0s b4D a0d (a0a (pv 7)))) a0d) a0d))))) (fun _ _ _ _=>(a0a (pv 7)))))))))))
theorem a5X:a0w b22 a4z (a0g a3M):=⟨rfl,rfl,rfl,by decide +kernel,rfl,by decide +kernel,by decide +kernel⟩
theorem b0W (L:Laid K mg "_law_next" a3M a4z) (Z:Blt mg) (H_law_behind:FnN P w K mg base (Γc K cls) 3 "_law_behind" a3A a2I) (H_law_come:FnN P w K mg base (Γc K cls) 1 "_law_come" a4C a3o) (H_law_comers:FnN P w K mg base (Γc K cls) 2 "_law_comers" a3y a3D):FnN P w K mg base (Γc K cls) 4 "_law_next" a4z a4H:=
 a1c (k:=3) L a5X fun f cdv A outer s H E hr=>
 (a0f (psS (i:=3) a5X.nd rfl (a03 H_law_comers (hr.mono (by first|decide|omega)) rfl (padN (a0a (pv 0)) (padS (a0i (ixd rfl) (a0a (pv 1)) a0d) a0e))))
 (a0f (a0I (PWD.pt (a1n (a0k a0D (a0s a01 (a0a (pv 2)) a0d) a0d) (a1i (a0k a5T (a0Q (a1a rfl) rfl Z.len PySem.boot_len (a0B (a0C (pv 3)) a0R)) a0d))))
 (a0A (i:=3) (a0h (a0m (a03 H_law_come (hr.mono (by first|decide|omega)) rfl (padN (a0a (pv 1)) (padS (a0i (ixd rfl) (a0a (pv 3)) (a0s a01 (a0s a3I (a0a (pv 2)) a0d) (a0Q (a1a rfl) rfl Z.len PySem.boot_len (a0B (a0C (pv 3)) a0R)))) a0e))))))
 a0n)
 (a0f (psS (i:=4) a5X.nd rfl (a03 H_law_behind (hr.mono (by first|decide|omega)) rfl (padN (a0a (pv 0)) (padN (a0a (pv 1)) a0e))))
 (a0f (a0I (b1V (a0a (pv 4)))
 (a0h (a0m (a0a (pv 4))))
 a0n)
 (a0f (a0I (a0k a5T (a0Q (a1a rfl) rfl Z.len PySem.boot_len (a0B (a0C (pv 3)) a0R)) a0d)
 (a0A (i:=3) (a0h (a0m (a03 H_law_come (hr.mono (by first|decide|omega)) rfl (padN (a0a (pv 1)) (padS (a0i (ixd rfl) (a0a (pv 3)) (a0s a01 (a0s a3I (a0a (pv 2)) a0d) (a0Q (a1a rfl) rfl Z.len PySem.boot_len (a0B (a0C (pv 3)) a0R)))) a0e))))))
 a0n)
 (a0h (a0m (a0a (pv 1)))))))))
theorem a4J:a0w a92 a2G (a0g a2A):=⟨rfl,rfl,rfl,by decide +kernel,rfl,by decide +kernel,by decide +kernel⟩
theorem a8L (L:Laid K mg "_law_number" a2A a2G) (Z:Blt mg) (H_law_mixed:FnN P w K mg base (Γc K cls) 1 "_law_mixed" a1y a0y):FnN P w K mg base (Γc K cls) 2 "_law_number" a2G a0J:=
 a1c (k:=1) L a4J fun f cdv A outer s H E hr=>
 (a0f (psS (i:=2) a4J.nd rfl (a03 H_law_mixed (hr.mono (by first|decide|omega)) rfl (padN (a0a (pv 0)) (padN (a0a (pv 1)) a0e))))
 (a0f (psS (i:=3) a4J.nd rfl (a03 H_law_mixed (hr.mono (by first|decide|omega)) rfl (padN (a0a (pv 0)) (padB (a0s (a0t rfl) (a0a (pv 1)) a0d) a0e))))
 (a0f (a0I (a0k a0D (a0s a01 (a0a (pv 2)) a0d) a0d)
 (a0h (a0m (a0s a8J (a0s a01 (a0a (pv 3)) a0d) a0d)))
 a0n)
 (a0f (a0I (a0k a0D (a0s a01 (a0a (pv 2)) a0d) a0d)
 (a0h (a0m (a0i (ixd rfl) (a1w (padB (a0s b0U a0d a0d) (padU (pd_usub (a0s b0U a0d a0d)) a0e))) (a0s a01 (a0a (pv 3)) a0d))))
 a0n)
 (a0h (a0m (a0s a8J (a0s a01 (a0s (a0t rfl) (a0s a38 (a0a (pv 2)) a0d) (a0a (pv 3))) a0d) a0d)))))))
theorem a1u:a0w b08 a31 (a0g a3a):=⟨rfl,rfl,rfl,by decide +kernel,rfl,by decide +kernel,by decide +kernel⟩
theorem a9T (L:Laid K mg "_law_boxes" a3a a31) (Z:Blt mg) (H_law_mixed:FnN P w K mg base (Γc K cls) 1 "_law_mixed" a1y a0y) (H_law_number:FnN P w K mg base (Γc K cls) 2 "_law_number" a2G a0J):FnN P w K mg base (Γc K cls) 3 "_law_boxes" a31 a4Q:=
 a1c (k:=2) L a1u fun f cdv A outer s H E hr=>
 (a0f (psS (i:=1) a1u.nd rfl (a0s (a0t rfl) a0d (a0s a01 (a03 H_law_mixed (hr.mono (by first|decide|omega)) rfl (padN (a0a (pv 0)) (padC a0d a0e))) a0d)))
 (a0f (psS (i:=2) a1u.nd rfl (a03 H_law_mixed (hr.mono (by first|decide|omega)) rfl (padN (a0a (pv 0)) (padC a0d a0e))))
 (a0f (psS (i:=2) a1u.nd rfl (a0i (ixd rfl) (a1w (padB (a0s a01 (a0s a3I (a0a (pv 2)) a0d) a0d) (padB (a0s (a0t rfl) a0d (a0s a01 (a0s a3I (a0a (pv 2)) a0d) a0d)) a0e))) (a51 cd_int rfl Z.int L3.bt_int (a1j (a6h a0D (a0s a01 (a0a (pv 2)) a0d) a0d) a0e))))
 (a0f (psS (i:=3) a1u.nd rfl (a1w a0e))
 (a0f (a4n PassesOwn.never rfl (a1b rfl Z.range (a0a (pv 2))) (pbN a1u.nd rfl)
 (a0f (psS (i:=5) a1u.nd rfl (a0s (a0t rfl) (a0s (a0t rfl) a0d (a0s a38 a0d (a0a (pv 4)))) (a0s a38 a0d (a0s a3I (a0a (pv 4)) a0d))))
 (a0f (psS (i:=6) a1u.nd rfl (a1w (padK (a03 H_law_number (hr.mono (by first|decide|omega)) rfl (padN (a0a (pv 0)) (padN (a0a (pv 5)) a0e))) a0e)))
 (a0f (psS (i:=7) a1u.nd rfl (a0s a01 (a03 H_law_mixed (hr.mono (by first|decide|omega)) rfl (padN (a0a (pv 0)) (padB (a0s (a0t rfl) (a0a (pv 5)) a0d) a0e))) a0d))
 (a0f (a0I (PWD.pt (a4X (PWD.pt (a1n (a0k a0D (a0a (pv 1)) a0d) (a1i (a0k a5T (a0a (pv 7)) (a0i (ixd rfl) (a1w (padC a0d (padC a0d (padC a0d a0e)))) (a0s a01 (a0a (pv 4)) a0d)))))) (a3W (PWD.pt (a1n (a0k a0D (a0a (pv 1)) a0d) (a1i (a0k a0D (a0a (pv 7)) a0d)))))))
 (a0h (a2F (i:=6) (pv 6) (a03 H_law_number (hr.mono (by first|decide|omega)) rfl (padN (a0a (pv 0)) (padB (a0s (a0t rfl) (a0a (pv 5)) a0d) a0e)))))
 a0n)
 (a0A (i:=6) (a0h (a2F (i:=3) (pv 3) (a0u (padS (a0i (ixd rfl) a0K (a0a (pv 4))) (padK (a51 (a3u rfl) rfl Z.tuple L3.a2h (padN (a0a (pv 6)) a0e)) a0e)))))))))))
 (a0A (i:=3) (a0h (a0m (a51 (a3u rfl) rfl Z.tuple L3.a2h (padN (a0a (pv 3)) a0e))))))))))
theorem a1f:a0w b24 a4B (a0g a3O):=⟨rfl,rfl,rfl,by decide +kernel,rfl,by decide +kernel,by decide +kernel⟩
theorem b0Y (L:Laid K mg "_law_deed" a3O a4B) (Z:Blt mg) (H_law_mixed:FnN P w K mg base (Γc K cls) 1 "_law_mixed" a1y a0y) (H_law_number:FnN P w K mg base (Γc K cls) 2 "_law_number" a2G a0J):FnN P w K mg base (Γc K cls) 3 "_law_deed" a4B a3n:=
 a1c (k:=2) L a1f fun f cdv A outer s H E hr=>
 (a0f (psS (i:=4) a1f.nd rfl (a0s a01 (a03 H_law_mixed (hr.mono (by first|decide|omega)) rfl (padN (a0a (pv 0)) (padN (a0a (pv 1)) a0e))) a0d))
 (a0f (psS (i:=5) a1f.nd rfl (a03 H_law_mixed (hr.mono (by first|decide|omega)) rfl (padN (a0a (pv 0)) (padB (a0s (a0t rfl) (a0a (pv 1)) a0d) a0e))))
 (a0f (psS (i:=6) a1f.nd rfl (a03 H_law_number (hr.mono (by first|decide|omega)) rfl (padN (a0a (pv 0)) (padB (a0s (a0t rfl) (a0a (pv 1)) a0d) a0e))))
 (a0f (a0I (PWD.pt (a4X (a0k a0D (a0Q (a1a rfl) rfl Z.len PySem.boot_len (a0B (a0C (pv 2)) a0R)) a0d) (a3W (a0k a0D (a0a (pv 4)) a0d))))
 (a0h (a0m (a0u (padC a0K (padB (a0s (a0t rfl) a0d (a0s a01 (a0a (pv 5)) (a0a (pv 3)))) a0e)))))
 a0n)
 (a0f (psS (i:=7) a1f.nd rfl (a0s a01 (a0a (pv 5)) (a0Q (a1a rfl) rfl Z.len PySem.boot_len (a0B (a0C (pv 2)) a0R))))
 (a0f (psS (i:=8) a1f.nd rfl (a0Q (a1a rfl) rfl Z.len PySem.boot_len (a0B (PD.look (a0i (ixd rfl) (a0i (ixd rfl) (a0a (pv 2)) (a0a (pv 7))) a0d)) a0R)))
 (a0f (a8g (i:=9) a1f.nd rfl (by first|exact Or.inl rfl|exact Or.inr rfl) (js:=[13]) (vars:=[".0","_law_y"]) (a06 13) (by rfl) (by rfl) rfl (a1b rfl Z.range (a0Q (a1a rfl) rfl Z.len PySem.boot_len (a0B (a0C (pv 2)) a0R))) (fun _ _ _ _=>(pbN a1f.nd rfl)) (fun _ _ _ _=>(PWD.pt (a1n (a0k a5S (a0a (pv 13)) (a0a (pv 7))) (a1i (a0k a0D (a0Q (a1a rfl) rfl Z.len PySem.boot_len (a0B (PD.look (a0i (ixd rfl) (a0i (ixd rfl) (a0a (pv 2)) (a0a (pv 13))) a0d)) a0R)) (a0a (pv 8))))))) (fun _ _ _ _=>(a0a (pv 13))))
 (a0A (i:=9) (a0f (psS (i:=10) a1f.nd rfl (a0i (ixd rfl) (a0s (a0t rfl) (a0a (pv 9)) (a1w (padN (a0a (pv 7)) a0e))) (a0s a01 (a03 H_law_mixed (hr.mono (by first|decide|omega)) rfl (padN (a0a (pv 0)) (padB (a0s (a0t rfl) (a0a (pv 1)) a0d) a0e))) (a0s (a0t rfl) (a0Q (a1a rfl) rfl Z.len PySem.boot_len (a0B (a0C (pv 9)) a0R)) a0d))))
 (a0f (a0I (PWD.pt (a4X (a0k a0D (a0a (pv 4)) a0d) (a3W (a0k a0D (a0a (pv 4)) a0d))))
 (a0f (psS (i:=12) a1f.nd rfl (a0s a8J (a0i (ixd rfl) (a0i (ixd rfl) (a0i (ixd rfl) (a0a (pv 2)) (a0a (pv 7))) a0d) a0d) (a0i (ixd rfl) (a0i (ixd rfl) (a0i (ixd rfl) (a0a (pv 2)) (a0a (pv 10))) a0d) a0d)))
 (a0f (a0I (PWD.pt (a1n (a0k a5T (a0s a01 (a0s a3I (a0a (pv 5)) a0d) a0d) a0d) (a1i (a0k b4F (a6O cd_abs rfl Z.abs L3.bt_abs (padN (a0a (pv 12)) a0e)) (a0s b0U a0d a0d)))))
 (a0h (psS (i:=6) a1f.nd rfl (a0a (pv 12))))
 a0n)
 (a0h (a0m (a0u (padS (a0i (ixd rfl) (a1w (padC a0K (padC a0K a0e))) (a0s a8J (a0a (pv 4)) a0d)) (padN (a0a (pv 7)) (padN (a0a (pv 10)) (padN (a0a (pv 6)) a0e)))))))))
 a0n)
 (a0f (a0I (PWD.pt (a1n (a0k a0D (a0a (pv 4)) a0d) (a1i (a0k a5S (a0a (pv 10)) (a0a (pv 7))))))
 (a0h (a0m (a0u (padC a0K (padN (a0a (pv 7)) (padN (a0a (pv 10)) a0e))))))
 a0n)
 (a0f (a0I (PWD.pt (a4X (a0k a0D (a0a (pv 4)) a0d) (a3W (PWD.pt (a1n (a0k a0D (a0a (pv 4)) a0d) (a1i (a0k a0D (a0a (pv 8)) a0d)))))))
 (a0h (a0m (a0u (padC a0K (padN (a0a (pv 7)) (padN (a0a (pv 6)) a0e))))))
 a0n)
 (a0f (a0I (a0k a0D (a0a (pv 4)) a0d)
 (a0h (a0m (a0u (padC a0K (padN (a0a (pv 7)) a0e)))))
 a0n)
 (a0f (a0I (PWD.pt (a4X (a0k a0D (a0a (pv 4)) a0d) (a3W (a0k a0D (a0a (pv 4)) a0d))))
 (a0h (a0m (a0u (padC a0K (padN (a0a (pv 7)) a0e)))))
 a0n)
 (a0f (a8g (i:=11) a1f.nd rfl (by first|exact Or.inl rfl|exact Or.inr rfl) (js:=[14]) (vars:=[".0","_law_t"]) (a06 14) (by rfl) (by rfl) rfl (a1b rfl Z.range (a0Q (a1a rfl) rfl Z.len PySem.boot_len (a0B (a0C (pv 2)) a0R))) (fun _ _ _ _=>(pbN a1f.nd rfl)) (fun _ _ _ _=>(PWD.pt (a1n (a0k a5S (a0a (pv 14)) (a0a (pv 7))) (a1n (a0k a5S (a0a (pv 14)) (a0a (pv 10))) (a1i (a0k a0D (a0Q (a1a rfl) rfl Z.len PySem.boot_len (a0B (PD.look (a0i (ixd rfl) (a0i (ixd rfl) (a0a (pv 2)) (a0a (pv 14))) a0d)) a0R)) a0d)))))) (fun _ _ _ _=>(a0a (pv 14))))
 (a0f (a0I (PWD.pt (a1n (a0k a0D (a0a (pv 4)) a0d) (a1n (a0k a5S (a0a (pv 10)) (a0a (pv 7))) (a1i (a0k a5T (a0Q (a1a rfl) rfl Z.len PySem.boot_len (a0B (a0C (pv 11)) a0R)) a0d)))))
 (a0A (i:=11) (a0h (a0m (a0u (padC a0K (padN (a0a (pv 7)) (padN (a0a (pv 10)) (padS (a0i (ixd rfl) (a0a (pv 11)) (a0s a01 (a0s a3I (a0a (pv 5)) a0d) (a0Q (a1a rfl) rfl Z.len PySem.boot_len (a0B (a0C (pv 11)) a0R)))) a0e))))))))
 a0n)
 (a0f (a0I (a0k a0D (a0a (pv 8)) a0d)
 (a0h (a0m (a0u (padC a0K (padN (a0a (pv 7)) (padT (a0u (padN (a0a (pv 6)) a0e)) a0e))))))
 a0n)
 (a0h (a0m (a0u (padC a0K (padN (a0a (pv 7)) (padT (a0u (padN (a0a (pv 6)) (padK (a03 H_law_number (hr.mono (by first|decide|omega)) rfl (padN (a0a (pv 0)) (padB (a0s (a0t rfl) (a0a (pv 1)) a0d) a0e))) a0e))) a0e)))))))))))))))))))))))
theorem a2Z:a0w b4Q a5e (a0g a4u):=⟨rfl,rfl,rfl,by decide +kernel,rfl,by decide +kernel,by decide +kernel⟩
theorem b2V (L:Laid K mg "_law_row" a4u a5e) (Z:Blt mg) (H_law_deed:FnN P w K mg base (Γc K cls) 3 "_law_deed" a4B a3n) (H_law_mixed:FnN P w K mg base (Γc K cls) 1 "_law_mixed" a1y a0y):FnN P w K mg base (Γc K cls) 4 "_law_row" a5e a4G:=
 a1c (k:=3) L a2Z fun f cdv A outer s H E hr=>
 (a0f (psS (i:=6) a2Z.nd rfl (a1w a0e))
 (a0f (a4n PassesOwn.never rfl (a1b rfl Z.range (a0s (a0t rfl) a0d (a0s a01 (a03 H_law_mixed (hr.mono (by first|decide|omega)) rfl (padN (a0a (pv 0)) (padN (a0a (pv 1)) a0e))) (a0a (pv 4))))) (pbN a2Z.nd rfl)
 (a0f (psS (i:=8) a2Z.nd rfl (a0s (a0t rfl) (a0s (a0t rfl) (a0a (pv 1)) a0d) (a0s a38 a0d (a0a (pv 7)))))
 (a0f (psS (i:=9) a2Z.nd rfl a0d)
 (a0f (psS (i:=10) a2Z.nd rfl (a03 H_law_mixed (hr.mono (by first|decide|omega)) rfl (padN (a0a (pv 0)) (padB (a0s (a0t rfl) (a0a (pv 8)) a0d) a0e))))
 (a0f (a0I (a0k a0D (a0s a01 (a0a (pv 10)) a0d) a0d)
 (a0h (psS (i:=9) a2Z.nd rfl (a0s a38 a0d (a0s a01 (a0s a3I (a0a (pv 10)) a0d) (a0s b4D a0d (a0a (pv 3)))))))
 a0n)
 (a0h (a2F (i:=6) (pv 6) (a0u (padK (a03 H_law_deed (hr.mono (by first|decide|omega)) rfl (padN (a0a (pv 0)) (padN (a0a (pv 8)) (padN (a0a (pv 2)) (padN (a0a (pv 5)) a0e))))) (padN (a0a (pv 9)) a0e))))))))))
 (a0A (i:=6) (a0h (a0m (a51 (a3u rfl) rfl Z.tuple L3.a2h (padN (a0a (pv 6)) a0e)))))))
theorem a1P:a0w a8S a2M (a0g a2b):=⟨rfl,rfl,rfl,by decide +kernel,rfl,by decide +kernel,by decide +kernel⟩
theorem a7X (L:Laid K mg "_law_program" a2b a2M) (Z:Blt mg) (H_law_boxes:FnN P w K mg base (Γc K cls) 3 "_law_boxes" a31 a4Q) (H_law_mixed:FnN P w K mg base (Γc K cls) 1 "_law_mixed" a1y a0y) (H_law_row:FnN P w K mg base (Γc K cls) 4 "_law_row" a5e a4G):FnN P w K mg base (Γc K cls) 5 "_law_program" a2M a3J:=
 a1c (k:=4) L a1P fun f cdv A outer s H E hr=>
 (a0f (psS (i:=4) a1P.nd rfl (a03 H_law_boxes (hr.mono (by first|decide|omega)) rfl (padN (a0a (pv 0)) a0e)))
 (a0f (psS (i:=5) a1P.nd rfl (a1w (padT (a0u (padC a0K (padC a0d (padK (a03 H_law_row (hr.mono (by first|decide|omega)) rfl (padN (a0a (pv 0)) (padC a0d (padN (a0a (pv 4)) (padN (a0a (pv 1)) (padN (a0a (pv 2)) (padN (a0a (pv 3)) a0e))))))) a0e)))) a0e)))
 (a0f (a4n PassesOwn.never rfl (a1b rfl Z.range (a0a (pv 1))) (pbN a1P.nd rfl)
 (a0f (psS (i:=7) a1P.nd rfl (a0s (a0t rfl) a0d (a0s a38 (a0s (a0t rfl) a0d (a0s a38 a0d (a0a (pv 2)))) (a0s (a0t rfl) (a0a (pv 6)) a0d))))
 (a0f (psS (i:=8) a1P.nd rfl (a0s (a0t rfl) a0d (a0s a01 (a03 H_law_mixed (hr.mono (by first|decide|omega)) rfl (padN (a0a (pv 0)) (padB (a0s (a0t rfl) (a0a (pv 7)) a0d) a0e))) (a0i (ixd rfl) (a1w (padC a0d (padC a0d a0e))) (a0s a01 (a03 H_law_mixed (hr.mono (by first|decide|omega)) rfl (padN (a0a (pv 0)) (padB (a0s (a0t rfl) (a0a (pv 7)) a0d) a0e))) a0d)))))
 (a0h (a2F (i:=5) (pv 5) (a0u (padS (a0i (ixd rfl) a0K (a0a (pv 6))) (padN (a0a (pv 8)) (padK (a03 H_law_row (hr.mono (by first|decide|omega)) rfl (padN (a0a (pv 0)) (padN (a0a (pv 7)) (padN (a0a (pv 4)) (padN (a0a (pv 1)) (padN (a0a (pv 2)) (padN (a0a (pv 3)) a0e))))))) a0e)))))))))
 (a0A (i:=5) (a0h (a0m (a0u (padN (a0a (pv 4)) (padK (a51 (a3u rfl) rfl Z.tuple L3.a2h (padN (a0a (pv 5)) a0e)) a0e)))))))))
theorem a9A:a0w b04 a2y (a0g a26):=⟨rfl,rfl,rfl,by decide +kernel,rfl,by decide +kernel,by decide +kernel⟩
theorem a9P (L:Laid K mg "places_of" a26 a2y) (Z:Blt mg)  : FnN P w K mg base (Γc K cls) 1 "places_of" a2y a1L:=
 a1c (k:=0) L a9A fun f cdv A outer s H E hr=>
 (a0h (a0m (a0i (ixd rfl) (a0i (ixd rfl) (a0i (ixd rfl) (a0a (pv 0)) a0d) (a0a (pv 1))) a0d)))
theorem b2G:a0w b4T a35 (a0g a4x):=⟨rfl,rfl,rfl,by decide +kernel,rfl,by decide +kernel,by decide +kernel⟩
theorem b2Y (L:Laid K mg "deed_at" a4x a35) (Z:Blt mg) (H_places_of:FnN P w K mg base (Γc K cls) 1 "places_of" a2y a1L):FnN P w K mg base (Γc K cls) 2 "deed_at" a35 a1O:=
 a1c (k:=1) L b2G fun f cdv A outer s H E hr=>
 (a0h (a0m (a0i (ixd rfl) (a0i (ixd rfl) (a03 H_places_of (hr.mono (by first|decide|omega)) rfl (padN (a0a (pv 0)) (padN (a0a (pv 1)) a0e))) (a0a (pv 2))) a0d)))
theorem a9C:a0w b1b a34 (a0g a3d):=⟨rfl,rfl,rfl,by decide +kernel,rfl,by decide +kernel,by decide +kernel⟩
theorem a9W (L:Laid K mg "is_at_end" a3d a34) (Z:Blt mg) (H_places_of:FnN P w K mg base (Γc K cls) 1 "places_of" a2y a1L):FnN P w K mg base (Γc K cls) 2 "is_at_end" a34 a3p:=
 a1c (k:=1) L a9C fun f cdv A outer s H E hr=>
 (a0h (a0m (a6h a0D (a0i (ixd rfl) (a0a (pv 1)) a0d) (a0Q (a1a rfl) rfl Z.len PySem.boot_len (a0B (PD.look (a03 H_places_of (hr.mono (by first|decide|omega)) rfl (padN (a0a (pv 0)) (padS (a0i (ixd rfl) (a0a (pv 1)) a0d) a0e)))) a0R)))))
theorem a49:a0w a71 a2r (a0g a1Q):=⟨rfl,rfl,rfl,by decide +kernel,rfl,by decide +kernel,by decide +kernel⟩
theorem a7l (L:Laid K mg "none_watched" a1Q a2r) (Z:Blt mg) (H_deed_at:FnN P w K mg base (Γc K cls) 2 "deed_at" a35 a1O) (H_places_of:FnN P w K mg base (Γc K cls) 1 "places_of" a2y a1L):FnN P w K mg base (Γc K cls) 3 "none_watched" a2r a2t:=
 a1c (k:=2) L a49 fun f cdv A outer s H E hr=>
 (a0f (psS (i:=2) a49.nd rfl (pd_ifExp (a0k a0D (a0i (ixd rfl) (a0a (pv 1)) a0d) a0d) (a0i (ixd rfl) (a0a (pv 1)) a0d) (a0s (a0t rfl) (a0i (ixd rfl) (a0a (pv 1)) a0d) a0d)))
 (a0f (a0I (PWD.pt (a4X (a0k a0D (a0a (pv 2)) (a0Q (a1a rfl) rfl Z.len PySem.boot_len (a0B (PD.look (a03 H_places_of (hr.mono (by first|decide|omega)) rfl (padN (a0a (pv 0)) (padS (a0i (ixd rfl) (a0a (pv 1)) a0d) a0e)))) a0R))) (a3W (a0k a5S (a0i (ixd rfl) (a03 H_deed_at (hr.mono (by first|decide|omega)) rfl (padN (a0a (pv 0)) (padS (a0i (ixd rfl) (a0a (pv 1)) a0d) (padN (a0a (pv 2)) a0e)))) a0d) a0K))))
 (a0h (a0m pd_non))
 a0n)
 (a0h (a0m (a0a (pv 2))))))
theorem b2E:a0w b4P a5d (a0g a4t):=⟨rfl,rfl,rfl,by decide +kernel,rfl,by decide +kernel,by decide +kernel⟩
theorem b2U (L:Laid K mg "size_of" a4t a5d) (Z:Blt mg)  : FnN P w K mg base (Γc K cls) 1 "size_of" a5d a4E:=
 a1c (k:=0) L b2E fun f cdv A outer s H E hr=>
 (a0h (a0m (a0Q (a1a rfl) rfl Z.len PySem.boot_len (a0B (PD.look (a0i (ixd rfl) (a0i (ixd rfl) (a0a (pv 0)) (a0a (pv 1))) a0d)) a0R))))
theorem a5Z:a0w b27 a3j (a0g a3R):=⟨rfl,rfl,rfl,by decide +kernel,rfl,by decide +kernel,by decide +kernel⟩
theorem b01 (L:Laid K mg "cells_of" a3R a3j) (Z:Blt mg) (H_size_of:FnN P w K mg base (Γc K cls) 1 "size_of" a5d a4E):FnN P w K mg base (Γc K cls) 2 "cells_of" a3j a1D:=
 a1c (k:=1) L a5Z fun f cdv A outer s H E hr=>
 (a0f (psS (i:=2) a5Z.nd rfl (a6O (cd_sum rfl rfl) rfl Z.sum L3.bt_sum (a1j (a1R (js:=[3]) (vars:=[".0","k"]) (a06 3) (by rfl) (by rfl) rfl (a1b rfl Z.range (a0a (pv 1))) (fun _ _ _ _=>(pbN a5Z.nd rfl)) (fun _ _ _ _=>(a03 H_size_of (hr.mono (by first|decide|omega)) rfl (padN (a0a (pv 0)) (padN (a0a (pv 3)) a0e))))) a0e)))
 (a0h (a0m (a9K rfl rfl Z.list rfl Z.range (a0a (pv 2)) (a0s (a0t rfl) (a0a (pv 2)) (a03 H_size_of (hr.mono (by first|decide|omega)) rfl (padN (a0a (pv 0)) (padN (a0a (pv 1)) a0e))))))))
theorem a4I:a0w a91 a3x (a0g a05):=⟨rfl,rfl,rfl,by decide +kernel,rfl,by decide +kernel,by decide +kernel⟩
theorem sl_lam0:a4V n_lam0 lam0:=a83 rfl rfl rfl (by decide +kernel) rfl (by decide +kernel) (by decide +kernel) (by decide +kernel)
theorem ok_lam0 (Z:Blt mg):b1G P w K mg base (Γc K cls) 1 0 f_lam0:=
 b48 (j:=0) (N:=n_lam0) (L:=lam0) sl_lam0 (fun _ _ _ _ _=>rfl) (b1x rfl) b1w fun A outer s H f c clos hr=>
 a8H
theorem b35:a4V n_lam1 lam1:=a83 rfl rfl rfl (by decide +kernel) rfl (by decide +kernel) (by decide +kernel) (by decide +kernel)
theorem ok_lam1 (Z:Blt mg):b1G P w K mg base (Γc K cls) 1 1 b5u:=
 b48 (j:=0) (N:=n_lam1) (L:=lam1) b35 (fun _ _ _ _ _=>rfl) (b1x rfl) b1w fun A outer s H f c clos hr=>
 (a6O (b5I rfl rfl) rfl Z.all L3.b5R (a1j (a1R (js:=[3,4]) (vars:=[".0","a","b"]) (b2q [3,4]) (by rfl) (by rfl) rfl (a2K rfl (a0a (pv 2))) (fun _ _ _ _=>(b1Z rfl rfl b35.nd rfl rfl (by first|exact Or.inl rfl|exact Or.inr rfl) (by first|exact Or.inl rfl|exact Or.inr rfl))) (fun _ _ _ _=>(a6h a0D (a0i (ixd rfl) (a0a (pv 0)) (a0a (pv 3))) (a0s (a0t rfl) (a0i (ixd rfl) (a0a (pv 0)) (a0a (pv 4))) (a0a (pv 1)))))) a0e))
theorem b34:a4V n_lam2 lam2:=a83 rfl rfl rfl (by decide +kernel) rfl (by decide +kernel) (by decide +kernel) (by decide +kernel)
theorem ok_lam2 (Z:Blt mg):b1G P w K mg base (Γc K cls) 1 2 b5t:=
 b48 (j:=0) (N:=n_lam2) (L:=lam2) b34 (fun _ _ _ _ _=>rfl) (b1x rfl) b1w fun A outer s H f c clos hr=>
 (a6O (b5I rfl rfl) rfl Z.all L3.b5R (a1j (a1R (js:=[3,4]) (vars:=[".0","a","b"]) (b2q [3,4]) (by rfl) (by rfl) rfl (a2K rfl (a0a (pv 2))) (fun _ _ _ _=>(b1Z rfl rfl b34.nd rfl rfl (by first|exact Or.inl rfl|exact Or.inr rfl) (by first|exact Or.inl rfl|exact Or.inr rfl))) (fun _ _ _ _=>(a6h b4F (a0i (ixd rfl) (a0a (pv 0)) (a0a (pv 3))) (a0s (a0t rfl) (a0i (ixd rfl) (a0a (pv 0)) (a0a (pv 4))) (a0a (pv 1)))))) a0e))
theorem ok_lams (Z:Blt mg):∀k F,tbL k=some F->b1G P w K mg base (Γc K cls) 1 k F:=fun k F e=>by
 unfold tbL at e
 split at e
 ·cases e;exact ok_lam0 Z
 ·cases e;exact ok_lam1 Z
 ·cases e;exact ok_lam2 Z
 ·cases e
theorem fv_lams:∀k L,lams k=some L->L.fv.Nodup/\∀y∈L.fv,(a0g a05).names.lookup y=some .cell:=fun k L e=>by
 unfold lams at e
 split at e
 ·cases e;exact ⟨by decide +kernel,by decide +kernel⟩
 ·cases e;exact ⟨by decide +kernel,by decide +kernel⟩
 ·cases e;exact ⟨by decide +kernel,by decide +kernel⟩
 ·cases e
theorem a8K (L:LaidC K mg "promise_of" a05 a3x CC) (hC:PySem.W.CodeHd base CC PT) (hB:BltM mg base) (Z:Blt mg) (H_cells_of:FnN P w K mg base (Γc K cls) 2 "cells_of" a3j a1D):FnN P w K mg base (Γc K cls) 3 "promise_of" a3x a2H:=
 fn_laidC (k:=2) L a4I fv_lams fun f A outer s H E hr=>
 (prd_if (a0k (b4E rfl) (a0i (ixd rfl) (a0a (pv 1)) a0d) (a0u (padC a0K (padC a0K a0e))) (by with_unfolding_all rfl))
 (b0S (L:=lam0) (P:=PT) (cc:=CC) (good:=good) rfl rfl (show ∀y∈lam0.fv,(a0g a05).names.lookup y=some .cell from by decide +kernel) b5C a7A hC rfl hB (show ("promise_of" : Str) ++ ".<locals>." ++ "<lambda>" = lam0.qual from by decide +kernel) rfl rfl rfl)
 (b4q (psS (i:=2) a4I.nd rfl (b2R rfl rfl rfl Z.list rfl Z.zip (a03 H_cells_of (hr.mono (by first|decide|omega)) rfl (padN (a0a (pv 0)) (padS (a0i (ixd rfl) (a0a (pv 1)) a0d) a0e))) (a03 H_cells_of (hr.mono (by first|decide|omega)) rfl (padN (a0a (pv 0)) (padS (a0i (ixd rfl) (a0a (pv 1)) a0d) a0e)))))
 (b4q (psS (i:=3) a4I.nd rfl (a0i (ixd rfl) (a0a (pv 1)) a0d))
 (prd_if (a0k a0D (a0i (ixd rfl) (a0a (pv 1)) a0d) a0K)
 (b0S (L:=lam1) (P:=PT) (cc:=CC) (good:=good) rfl rfl (show ∀y∈lam1.fv,(a0g a05).names.lookup y=some .cell from by decide +kernel) b5C a7A hC rfl hB (show ("promise_of" : Str) ++ ".<locals>." ++ "<lambda>" = lam1.qual from by decide +kernel) rfl rfl rfl)
 (b0S (L:=lam2) (P:=PT) (cc:=CC) (good:=good) rfl rfl (show ∀y∈lam2.fv,(a0g a05).names.lookup y=some .cell from by decide +kernel) b5C a7A hC rfl hB (show ("promise_of" : Str) ++ ".<locals>." ++ "<lambda>" = lam2.qual from by decide +kernel) rfl rfl rfl)))))
theorem b4g:a0w n_i_Deed a3r (a0g a5y):=⟨rfl,rfl,rfl,by decide +kernel,rfl,by decide +kernel,by decide +kernel⟩
theorem b4J (L:a3K K mg cls "Deed" "Deed" "Deed.__init__" a5y a3r) (Z:Blt mg) (H_fld_plan:∀c∈["Deed","Promise","Comparing","Untouched","Still","Put","Copy","Tick","Handed","Grow","Anew"],Cls K (cls c)/\a2v K (cls c) "plan"):a2p P w K mg base (Γc K cls) 1 "Deed" "Deed" a3r a4j:=
 a1W (k:=0) L b4g (by decide) fun f cdv A outer s H E hr=>
 (a1I (a9G (cs:=["Deed","Promise","Comparing","Untouched","Still","Put","Copy","Tick","Handed","Grow","Anew"]) rfl H_fld_plan (pv 0) (a0a (pv 1)))
 a3V)
theorem a5Y:a0w b26 a3S (a0g a3Q):=⟨rfl,rfl,rfl,by decide +kernel,rfl,by decide +kernel,by decide +kernel⟩
theorem b00 (L:a3K K mg cls "Handed" "Handed" "Handed.__init__" a3Q a3S) (Z:Blt mg) (H_i_Deed:a2p P w K mg base (Γc K cls) 1 "Deed" "Deed" a3r a4j):a2p P w K mg base (Γc K cls) 2 "Handed" "Handed" a3S a5F:=
 a1W (k:=1) L a5Y (by decide) fun f cdv A outer s H E hr=>
 (a1I (a4m H_i_Deed (hr.mono (by decide)) rfl (pv 0) (padB (a0s (a0t rfl) (a1R (js:=[3]) (vars:=[".0","cell"]) (a06 3) (by rfl) (by rfl) rfl (a2K rfl (a0a (pv 1))) (fun _ _ _ _=>(pbN a5Y.nd rfl)) (fun _ _ _ _=>(a0u (padT (a0u (padN (a0a (pv 3)) a0e)) (padT (a0u a0e) a0e))))) (a1R (js:=[3]) (vars:=[".0","cell"]) (a06 3) (by rfl) (by rfl) rfl (a2K rfl (a0a (pv 2))) (fun _ _ _ _=>(pbN a5Y.nd rfl)) (fun _ _ _ _=>(a0u (padT (a0u a0e) (padT (a0u (padN (a0a (pv 3)) a0e)) a0e)))))) a0e))
 a3V)
theorem b4h:a0w n_i_Anew a6l (a0g a5A):=⟨rfl,rfl,rfl,by decide +kernel,rfl,by decide +kernel,by decide +kernel⟩
theorem b4L (L:a3K K mg cls "Anew" "Anew" "Anew.__init__" a5A a6l) (Z:Blt mg) (H_fld_check:∀c∈["Anew"],Cls K (cls c)/\a2v K (cls c) "check") (H_i_Handed:a2p P w K mg base (Γc K cls) 2 "Handed" "Handed" a3S a5F):a2p P w K mg base (Γc K cls) 3 "Anew" "Anew" a6l b5j:=
 a1W (k:=2) L b4h (by decide) fun f cdv A outer s H E hr=>
 (a1I (a4m H_i_Handed (hr.mono (by decide)) rfl (pv 0) (padB (a0s (a0t rfl) (a0s (a0t rfl) (a1w (padN (a0a (pv 3)) a0e)) (a0a (pv 2))) (a1w (padN (a0a (pv 3)) a0e))) (padN (a0a (pv 1)) a0e)))
 (a1I (a9G (cs:=["Anew"]) rfl H_fld_check (pv 0) (a0s (a0t rfl) (a0Q (a1a rfl) rfl Z.len PySem.boot_len (a0B (a0C (pv 2)) a0R)) a0d))
 a3V))
theorem a9D:a0w b1c a3i (a0g a3e):=⟨rfl,rfl,rfl,by decide +kernel,rfl,by decide +kernel,by decide +kernel⟩
theorem a9X (L:a3K K mg cls "Promise" "Promise" "Promise.__init__" a3e a3i) (Z:Blt mg) (H_i_Deed:a2p P w K mg base (Γc K cls) 1 "Deed" "Deed" a3r a4j):a2p P w K mg base (Γc K cls) 2 "Promise" "Promise" a3i a4D:=
 a1W (k:=1) L a9D (by decide) fun f cdv A outer s H E hr=>
 (a1I (a4m H_i_Deed (hr.mono (by decide)) rfl (pv 0) (a1j (a1w (padT (a0u (padK (a51 (a3u rfl) rfl Z.tuple L3.a2h (padN (a0a (pv 1)) a0e)) (padT (a0u a0e) a0e))) a0e)) a0e))
 a3V)
theorem a7R:a0w a8U a2O (a0g a2d):=⟨rfl,rfl,rfl,by decide +kernel,rfl,by decide +kernel,by decide +kernel⟩
theorem a7Z (L:a3K K mg cls "Comparing" "Comparing" "Comparing.__init__" a2d a2O) (Z:Blt mg) (H_i_Promise:a2p P w K mg base (Γc K cls) 2 "Promise" "Promise" a3i a4D):a2p P w K mg base (Γc K cls) 3 "Comparing" "Comparing" a2O a59:=
 a1W (k:=2) L a7R (by decide) fun f cdv A outer s H E hr=>
 (a1I (a4m H_i_Promise (hr.mono (by decide)) rfl (pv 0) (padK (a9J rfl rfl rfl Z.sorted rfl Z.set (a0s (a0t rfl) (a0a (pv 1)) (a0a (pv 2)))) a0e))
 a3V)
theorem a9E:a0w n_i_Copy a6k (a0g a5z):=⟨rfl,rfl,rfl,by decide +kernel,rfl,by decide +kernel,by decide +kernel⟩
theorem b4K (L:a3K K mg cls "Copy" "Copy" "Copy.__init__" a5z a6k) (Z:Blt mg) (H_i_Deed:a2p P w K mg base (Γc K cls) 1 "Deed" "Deed" a3r a4j):a2p P w K mg base (Γc K cls) 2 "Copy" "Copy" a6k b5i:=
 a1W (k:=1) L a9E (by decide) fun f cdv A outer s H E hr=>
 (a1I (a4m H_i_Deed (hr.mono (by decide)) rfl (pv 0) (a1j (a1R (js:=[3]) (vars:=[".0","k"]) (a06 3) (by rfl) (by rfl) rfl (a1b rfl Z.range (a0Q (a1a rfl) rfl Z.len PySem.boot_len (a0B (a0C (pv 1)) a0R))) (fun _ _ _ _=>(pbN a9E.nd rfl)) (fun _ _ _ _=>(a0u (padT (a0u (padS (a0i (ixd rfl) (a0a (pv 2)) (a0a (pv 3))) a0e)) (padT (a0u (padS (a0i (ixd rfl) (a0a (pv 1)) (a0a (pv 3))) a0e)) a0e))))) a0e))
 a3V)
theorem b4f:a0w n_i_Grow a6j (a0g a5x):=⟨rfl,rfl,rfl,by decide +kernel,rfl,by decide +kernel,by decide +kernel⟩
theorem b4I (L:a3K K mg cls "Grow" "Grow" "Grow.__init__" a5x a6j) (Z:Blt mg) (H_fld_number:∀c∈["Grow"],Cls K (cls c)/\a2v K (cls c) "number") (H_fld_size:∀c∈["Grow"],Cls K (cls c)/\a2v K (cls c) "size") (H_i_Handed:a2p P w K mg base (Γc K cls) 2 "Handed" "Handed" a3S a5F):a2p P w K mg base (Γc K cls) 3 "Grow" "Grow" a6j b5h:=
 a1W (k:=2) L b4f (by decide) fun f cdv A outer s H E hr=>
 (a1I (a4m H_i_Handed (hr.mono (by decide)) rfl (pv 0) (padN (a0a (pv 1)) (padN (a0a (pv 1)) a0e)))
 (a1I (a9G (cs:=["Grow"]) rfl H_fld_size (pv 0) (a0Q (a1a rfl) rfl Z.len PySem.boot_len (a0B (a0C (pv 1)) a0R)))
 (a1I (a9G (cs:=["Grow"]) rfl H_fld_number (pv 0) (a0a (pv 2)))
 a3V)))
theorem b1Q:a0w n_i_Put a7k (a0g a6E):=⟨rfl,rfl,rfl,by decide +kernel,rfl,by decide +kernel,by decide +kernel⟩
theorem ok_i_Put (L:a3K K mg cls "Put" "Put" "Put.__init__" a6E a7k) (Z:Blt mg) (H_fld_numbers:∀c∈["Put"],Cls K (cls c)/\a2v K (cls c) "numbers") (H_i_Deed:a2p P w K mg base (Γc K cls) 1 "Deed" "Deed" a3r a4j):a2p P w K mg base (Γc K cls) 2 "Put" "Put" a7k i_Put:=
 a1W (k:=1) L b1Q (by decide) fun f cdv A outer s H E hr=>
 (a1I (a4m H_i_Deed (hr.mono (by decide)) rfl (pv 0) (a1j (a1R (js:=[3]) (vars:=[".0","cell"]) (a06 3) (by rfl) (by rfl) rfl (a2K rfl (a0a (pv 1))) (fun _ _ _ _=>(pbN b1Q.nd rfl)) (fun _ _ _ _=>(a0u (padT (a0u a0e) (padT (a0u (padN (a0a (pv 3)) a0e)) a0e))))) a0e))
 (a1I (a9G (cs:=["Put"]) rfl H_fld_numbers (pv 0) (a51 (a3u rfl) rfl Z.tuple L3.a2h (padN (a0a (pv 2)) a0e)))
 a3V))
theorem b2F:a0w b4R a5f (a0g a4v):=⟨rfl,rfl,rfl,by decide +kernel,rfl,by decide +kernel,by decide +kernel⟩
theorem b2W (L:a3K K mg cls "Still" "Still" "Still.__init__" a4v a5f) (Z:Blt mg) (H_i_Deed:a2p P w K mg base (Γc K cls) 1 "Deed" "Deed" a3r a4j):a2p P w K mg base (Γc K cls) 2 "Still" "Still" a5f b1r:=
 a1W (k:=1) L b2F (by decide) fun f cdv A outer s H E hr=>
 (a1I (a4m H_i_Deed (hr.mono (by decide)) rfl (pv 0) (padB (pd_rep (a1w (padT (a0u (padT (a0u a0e) (padT (a0u a0e) a0e))) a0e)) (a0a (pv 1))) a0e))
 a3V)
theorem b4e:a0w n_i_Tick a6i (a0g a5w):=⟨rfl,rfl,rfl,by decide +kernel,rfl,by decide +kernel,by decide +kernel⟩
theorem b4H (L:a3K K mg cls "Tick" "Tick" "Tick.__init__" a5w a6i) (Z:Blt mg) (H_i_Deed:a2p P w K mg base (Γc K cls) 1 "Deed" "Deed" a3r a4j):a2p P w K mg base (Γc K cls) 2 "Tick" "Tick" a6i b5g:=
 a1W (k:=1) L b4e (by decide) fun f cdv A outer s H E hr=>
 (a1I (a4m H_i_Deed (hr.mono (by decide)) rfl (pv 0) (a1j (a1w (padT (a0u (padT (a0u (padN (a0a (pv 1)) a0e)) (padT (a0u (padN (a0a (pv 1)) a0e)) a0e))) a0e)) a0e))
 a3V)
theorem a7Q:a0w a8T a2N (a0g a2c):=⟨rfl,rfl,rfl,by decide +kernel,rfl,by decide +kernel,by decide +kernel⟩
theorem a7Y (L:a3K K mg cls "Untouched" "Untouched" "Untouched.__init__" a2c a2N) (Z:Blt mg) (H_i_Promise:a2p P w K mg base (Γc K cls) 2 "Promise" "Promise" a3i a4D):a2p P w K mg base (Γc K cls) 3 "Untouched" "Untouched" a2N a57:=
 a1W (k:=2) L a7Q (by decide) fun f cdv A outer s H E hr=>
 (a1I (a4m H_i_Promise (hr.mono (by decide)) rfl (pv 0) (a1j (a1w a0e) a0e))
 a3V)
theorem a5v:a0w b4S a5g (a0g a4w):=⟨rfl,rfl,rfl,by decide +kernel,rfl,by decide +kernel,by decide +kernel⟩
theorem b2X (L:Laid K mg "deed_of" a4w a5g) (Z:Blt mg) (H_cells_of:FnN P w K mg base (Γc K cls) 2 "cells_of" a3j a1D) (H_i_Anew:a2p P w K mg base (Γc K cls) 3 "Anew" "Anew" a6l b5j) (H_i_Comparing:a2p P w K mg base (Γc K cls) 3 "Comparing" "Comparing" a2O a59) (H_i_Copy:a2p P w K mg base (Γc K cls) 2 "Copy" "Copy" a6k b5i) (H_i_Grow:a2p P w K mg base (Γc K cls) 3 "Grow" "Grow" a6j b5h) (H_i_Put:a2p P w K mg base (Γc K cls) 2 "Put" "Put" a7k i_Put) (H_i_Still:a2p P w K mg base (Γc K cls) 2 "Still" "Still" a5f b1r) (H_i_Tick:a2p P w K mg base (Γc K cls) 2 "Tick" "Tick" a6i b5g) (H_i_Untouched:a2p P w K mg base (Γc K cls) 3 "Untouched" "Untouched" a2N a57):FnN P w K mg base (Γc K cls) 5 "deed_of" a5g a6v:=
 a1c (k:=4) L a5v fun f cdv A outer s H E hr=>
 (a0f (psS (i:=2) a5v.nd rfl (a0i (ixd rfl) (a0a (pv 1)) a0d))
 (a0f (a0I (a0k a0D (a0a (pv 2)) a0K)
 (a0h (a0m (a52 H_i_Still (hr.mono (by decide)) rfl (padS (a0i (ixd rfl) (a0a (pv 1)) a0d) a0e))))
 a0n)
 (a0f (a0I (a0k a0D (a0a (pv 2)) a0K)
 (a0h (a0m (pd_make0 H_i_Untouched (hr.mono (by decide)) rfl)))
 a0n)
 (a0f (psS (i:=3) a5v.nd rfl (a03 H_cells_of (hr.mono (by first|decide|omega)) rfl (padN (a0a (pv 0)) (padS (a0i (ixd rfl) (a0a (pv 1)) a0d) a0e))))
 (a0f (a0I (a0k a0D (a0a (pv 2)) a0K)
 (a0A (i:=3) (a0h (a0m (a52 H_i_Put (hr.mono (by decide)) rfl (padN (a0a (pv 3)) (padS (a0i (ixd rfl) (a0a (pv 1)) a0d) a0e))))))
 a0n)
 (a0f (a0I (a0k a0D (a0a (pv 2)) a0K)
 (a0A (i:=3) (a0h (a0m (a52 H_i_Grow (hr.mono (by decide)) rfl (padN (a0a (pv 3)) (padS (a0i (ixd rfl) (a0a (pv 1)) a0d) a0e))))))
 a0n)
 (a0f (a0I (a0k a0D (a0a (pv 2)) a0K)
 (a0A (i:=3) (a0h (a0m (a52 H_i_Tick (hr.mono (by decide)) rfl (padS (a0i (ixd rfl) (a0a (pv 3)) a0d) a0e)))))
 a0n)
 (a0f (psS (i:=4) a5v.nd rfl (a03 H_cells_of (hr.mono (by first|decide|omega)) rfl (padN (a0a (pv 0)) (padS (a0i (ixd rfl) (a0a (pv 1)) a0d) a0e))))
 (a0f (a0I (a0k a0D (a0a (pv 2)) a0K)
 (a0A (i:=4) (a0A (i:=3) (a0h (a0m (a52 H_i_Copy (hr.mono (by decide)) rfl (padN (a0a (pv 3)) (padN (a0a (pv 4)) a0e)))))))
 a0n)
 (a0f (a0I (a0k a0D (a0a (pv 2)) a0K)
 (a0A (i:=4) (a0A (i:=3) (a0h (a0m (a52 H_i_Anew (hr.mono (by decide)) rfl (padN (a0a (pv 3)) (padN (a0a (pv 4)) (padS (a0i (ixd rfl) (a03 H_cells_of (hr.mono (by first|decide|omega)) rfl (padN (a0a (pv 0)) (padS (a0i (ixd rfl) (a0a (pv 1)) a0d) a0e))) a0d) a0e))))))))
 a0n)
 (a0A (i:=4) (a0A (i:=3) (a0h (a0m (a52 H_i_Comparing (hr.mono (by decide)) rfl (padN (a0a (pv 3)) (padN (a0a (pv 4)) a0e)))))))))))))))))
theorem a8B:a0w a96 a3B (a0g a2E):=⟨rfl,rfl,rfl,by decide +kernel,rfl,by decide +kernel,by decide +kernel⟩
theorem a8P (L:b3K K cls "reads" "Deed.reads" a2E a3B ["Deed","Promise","Comparing","Untouched","Still","Put","Copy","Tick","Handed","Grow","Anew"]) (Z:Blt mg) (H_fld_plan:∀c∈["Deed","Promise","Comparing","Untouched","Still","Put","Copy","Tick","Handed","Grow","Anew"],Cls K (cls c)/\a2v K (cls c) "plan"):b1F P w K mg base (Γc K cls) 1 "reads" a3B a3E ["Deed","Promise","Comparing","Untouched","Still","Put","Copy","Tick","Handed","Grow","Anew"]:=
 a98 (k:=0) L a8B fun f cdv A outer s H E hr=>
 (a0h (a0m (a51 (a9g rfl) rfl Z.list L3.a6b (padS (a0i (ixd rfl) (a0i (ixd rfl) (pd_fld (cs:=["Deed","Promise","Comparing","Untouched","Still","Put","Copy","Tick","Handed","Grow","Anew"]) rfl H_fld_plan (a0a (pv 0))) (a0a (pv 1))) a0d) a0e))))
theorem a7S:a0w a8V a2P (a0g a2e):=⟨rfl,rfl,rfl,by decide +kernel,rfl,by decide +kernel,by decide +kernel⟩
theorem a70 (L:b3K K cls "writes" "Deed.writes" a2e a2P ["Deed","Promise","Comparing","Untouched","Still","Put","Copy","Tick","Handed","Grow","Anew"]) (Z:Blt mg) (H_fld_plan:∀c∈["Deed","Promise","Comparing","Untouched","Still","Put","Copy","Tick","Handed","Grow","Anew"],Cls K (cls c)/\a2v K (cls c) "plan"):b1F P w K mg base (Γc K cls) 1 "writes" a2P a2U ["Deed","Promise","Comparing","Untouched","Still","Put","Copy","Tick","Handed","Grow","Anew"]:=
 a98 (k:=0) L a7S fun f cdv A outer s H E hr=>
 (a0h (a0m (a51 (a9g rfl) rfl Z.list L3.a6b (padS (a0i (ixd rfl) (a0i (ixd rfl) (pd_fld (cs:=["Deed","Promise","Comparing","Untouched","Still","Put","Copy","Tick","Handed","Grow","Anew"]) rfl H_fld_plan (a0a (pv 0))) (a0a (pv 1))) a0d) a0e))))
theorem a5u:a0w b4O a5c (a0g a4s):=⟨rfl,rfl,rfl,by decide +kernel,rfl,by decide +kernel,by decide +kernel⟩
theorem b2T (L:Laid K mg "touches" a4s a5c) (Z:Blt mg) (H_cells_of:FnN P w K mg base (Γc K cls) 2 "cells_of" a3j a1D) (H_deed_at:FnN P w K mg base (Γc K cls) 2 "deed_at" a35 a1O) (H_deed_of:FnN P w K mg base (Γc K cls) 5 "deed_of" a5g a6v) (H_Deed_reads:b1F P w K mg base (Γc K cls) 1 "reads" a3B a3E ["Deed","Promise","Comparing","Untouched","Still","Put","Copy","Tick","Handed","Grow","Anew"]) (H_Deed_writes:b1F P w K mg base (Γc K cls) 1 "writes" a2P a2U ["Deed","Promise","Comparing","Untouched","Still","Put","Copy","Tick","Handed","Grow","Anew"]):FnN P w K mg base (Γc K cls) 6 "touches" a5c a5m:=
 a1c (k:=5) L a5u fun f cdv A outer s H E hr=>
 (a0f (psS (i:=3) a5u.nd rfl (a03 H_deed_of (hr.mono (by first|decide|omega)) rfl (padS (a0i (ixd rfl) (a0a (pv 0)) a0d) (padK (a03 H_deed_at (hr.mono (by first|decide|omega)) rfl (padN (a0a (pv 0)) (padS (a0i (ixd rfl) (a0a (pv 1)) a0d) (padS (a0i (ixd rfl) (a0a (pv 1)) a0d) a0e)))) a0e))))
 (a0A (i:=3) (a0f (psS (i:=4) a5u.nd rfl (a0s (a0t rfl) (b4z (tb:=a62) (b1J H_Deed_reads (hr.mono (by decide)) b3U) (a0a (pv 3)) (padS (a0i (ixd rfl) (a0a (pv 1)) a0d) a0e)) (b4z (tb:=a6e) (b1J H_Deed_writes (hr.mono (by decide)) b3U) (a0a (pv 3)) (padS (a0i (ixd rfl) (a0a (pv 1)) a0d) a0e))))
 (a0A (i:=4) (a0h (a0m (a6O (cd_any rfl rfl) rfl Z.any L3.bt_any (a1j (a1R (js:=[5]) (vars:=[".0","cell"]) (a06 5) (by rfl) (by rfl) rfl (a2K rfl (a03 H_cells_of (hr.mono (by first|decide|omega)) rfl (padS (a0i (ixd rfl) (a0a (pv 0)) a0d) (padN (a0a (pv 2)) a0e)))) (fun _ _ _ _=>(pbN a5u.nd rfl)) (fun _ _ _ _=>(a6h (opd_in rfl) (a0a (pv 5)) (a0a (pv 4)) (by with_unfolding_all rfl)))) a0e))))))))
theorem a3w:a0w b1d a36 (a0g a3f):=⟨rfl,rfl,rfl,by decide +kernel,rfl,by decide +kernel,by decide +kernel⟩
theorem a9Y (L:Laid K mg "broken_by" a3f a36) (Z:Blt mg) (H_deed_at:FnN P w K mg base (Γc K cls) 2 "deed_at" a35 a1O) (H_is_at_end:FnN P w K mg base (Γc K cls) 2 "is_at_end" a34 a3p) (H_none_watched:FnN P w K mg base (Γc K cls) 3 "none_watched" a2r a2t) (H_promise_of:FnN P w K mg base (Γc K cls) 3 "promise_of" a3x a2H) (H_touches:FnN P w K mg base (Γc K cls) 6 "touches" a5c a5m) (H_lams:∀k F,tbL k=some F->b1G P w K mg base (Γc K cls) 1 k F):FnN P w K mg base (Γc K cls) 7 "broken_by" a36 a3q:=
 a1c (k:=6) L a3w fun f cdv A outer s H E hr=>
 (a0f (psS (i:=3) a3w.nd rfl (a0i (ixd rfl) (a0a (pv 1)) a7j))
 (a0f (a0I (a3g (a03 H_is_at_end (hr.mono (by first|decide|omega)) rfl (padN (a0a (pv 0)) (padN (a0a (pv 3)) a0e))))
 (a0h (a0m (a0u a0e)))
 a0n)
 (a0f (psS (i:=4) a3w.nd rfl (a1w a0e))
 (a0f (a4n PassesOwn.never rfl (a2K rfl (a67 rfl (a0a (pv 1)) a65 (a64 a7j))) (pbN a3w.nd rfl)
 (a0f (psS (i:=6) a3w.nd rfl (a03 H_none_watched (hr.mono (by first|decide|omega)) rfl (padN (a0a (pv 0)) (padN (a0a (pv 5)) a0e))))
 (a0h (a0I (PWD.pt (a1n (b1V (a0a (pv 6))) (a1i (a3g (a03 H_touches (hr.mono (by first|decide|omega)) rfl (padN (a0a (pv 0)) (padN (a0a (pv 3)) (padS (a0i (ixd rfl) (a03 H_deed_at (hr.mono (by first|decide|omega)) rfl (padN (a0a (pv 0)) (padS (a0i (ixd rfl) (a0a (pv 5)) a0d) (padN (a0a (pv 6)) a0e)))) a0d) a0e))))))))
 (a0h (a2F (i:=4) (pv 4) (a0u (padS (a0i (ixd rfl) (a0a (pv 5)) a0d) (padN (a0a (pv 6)) a0e)))))
 a0n))))
 (a0f (a0I (a7g (a3g (pd_callX (T:=tbL) (fun k F e=>⟨1,hr.mono (by first|decide|omega),H_lams k F e⟩) (a03 H_promise_of (hr.mono (by first|decide|omega)) rfl (padS (a0i (ixd rfl) (a0a (pv 0)) a0d) (padK (a03 H_deed_at (hr.mono (by first|decide|omega)) rfl (padN (a0a (pv 0)) (padS (a0i (ixd rfl) (a0a (pv 3)) a0d) (padS (a0i (ixd rfl) (a0a (pv 3)) a0d) a0e)))) a0e))) (a1j (a0a (pv 2)) a0e))))
 (a0h (a2F (i:=4) (pv 4) (a0u (padS (a0i (ixd rfl) (a0a (pv 3)) a0d) (padS (a0i (ixd rfl) (a0a (pv 3)) a0d) a0e)))))
 a0n)
 (a0A (i:=4) (a0h (a0m (a51 (a3u rfl) rfl Z.tuple L3.a2h (padN (a0a (pv 4)) a0e))))))))))
theorem b4i:a0w n_breaks a6m (a0g a5B):=⟨rfl,rfl,rfl,by decide +kernel,rfl,by decide +kernel,by decide +kernel⟩
theorem b4M (L:Laid K mg "breaks" a5B a6m) (Z:Blt mg) (H_broken_by:FnN P w K mg base (Γc K cls) 7 "broken_by" a36 a3q):FnN P w K mg base (Γc K cls) 8 "breaks" a6m a5H:=
 a1c (k:=7) L b4i fun f cdv A outer s H E hr=>
 (a0h (a0m (a03 H_broken_by (hr.mono (by first|decide|omega)) rfl (padN (a0a (pv 0)) (padS (a0i (ixd rfl) (a0a (pv 1)) a0d) (padS (a0i (ixd rfl) (a0a (pv 1)) a0d) a0e))))))
theorem a9B:a0w n_law p_law (a0g b0P):=⟨rfl,rfl,rfl,by decide +kernel,rfl,by decide +kernel,by decide +kernel⟩
theorem ok_law {f:Addr} {fd:FuncData} (L:Fun K "law" "law" b0P f fd) (Z:Blt mg) (H_law_alike:FnN P w K mg base (Γc K cls) 9 "_law_alike" a33 a39) (H_law_begin:FnN P w K mg base (Γc K cls) 1 "_law_begin" a32 a4R) (H_law_breaks:FnN P w K mg base (Γc K cls) 3 "_law_breaks" a3z a1X) (H_law_mixed:FnN P w K mg base (Γc K cls) 1 "_law_mixed" a1y a0y) (H_law_next:FnN P w K mg base (Γc K cls) 4 "_law_next" a4z a4H) (H_law_program:FnN P w K mg base (Γc K cls) 5 "_law_program" a2M a3J) (H_breaks:FnN P w K mg base (Γc K cls) 8 "breaks" a6m a5H):FnOk P w K mg base CX0 10 f fd p_law (spD (Γc K cls) W0 f_law):=
 fn_D (k:=9) L a9B fun cdv A outer s H E hr=>
 (a0f (psS (i:=1) a9B.nd rfl (a03 H_law_program (hr.mono (by first|decide|omega)) rfl (padN (a0a (pv 0)) (padB (a0s a01 (a03 H_law_mixed (hr.mono (by first|decide|omega)) rfl (padN (a0a (pv 0)) (padC a0d a0e))) a0d) (padC a0d (padC a0d a0e))))))
 (a0f (psS (i:=2) a9B.nd rfl (a03 H_law_begin (hr.mono (by first|decide|omega)) rfl (padN (a0a (pv 1)) a0e)))
 (a0f (a4n PassesOwn.never rfl (a2K rfl (a0s (a0t rfl) (a1w (padC a0d (padC a0d (padC a0d a0e)))) (a67 rfl (a0a (pv 0)) a65 (a64 a0d)))) (pbN a9B.nd rfl)
 (a0f (a0I (a7g (a3g (a03 H_law_alike (hr.mono (by first|decide|omega)) rfl (padK (a03 H_breaks (hr.mono (by first|decide|omega)) rfl (padN (a0a (pv 1)) (padN (a0a (pv 2)) a0e))) (padK (a03 H_law_breaks (hr.mono (by first|decide|omega)) rfl (padN (a0a (pv 1)) (padN (a0a (pv 2)) a0e))) a0e)))))
 (a0h (a0m a8H))
 a0n)
 (a0h (psS (i:=2) a9B.nd rfl (a03 H_law_next (hr.mono (by first|decide|omega)) rfl (padN (a0a (pv 1)) (padN (a0a (pv 2)) (padB (a0s a01 (a0a (pv 3)) a0d) a0e))))))))
 (a0h (a0m a8H)))))
theorem ok_all (T:Defs K mg cls) (hC:PySem.W.CodeHd base CC PT) (hB:BltM mg base) (Z:Blt mg) {f:Addr} {fd:FuncData} (L:Fun K "law" "law" b0P f fd):FnOk P w K mg base CX0 10 f fd p_law (spD (Γc K cls) W0 f_law):=by
 have h_lams:=@ok_lams P w K mg base cls Z
 have h_law_alike:=@a9V P w K mg base cls T.L_law_alike Z
 have h_law_begin:=@a9U P w K mg base cls T.L_law_begin Z
 have h_law_cells:=@a9S P w K mg base cls T.L_law_cells Z
 have h_law_kept:=@b0X P w K mg base cls T.L_law_kept Z h_law_cells
 have h_law_touched:=@a7W P w K mg base cls T.L_law_touched Z
 have h_law_breaks:=@a8N P w K mg base cls T.L_law_breaks Z h_law_kept h_law_touched
 have h_law_mixed:=@a9R P w K mg base cls T.L_law_mixed Z
 have h_law_turn_done:=@a6V P w K mg base cls T.L_law_turn_done Z
 have h_law_turns:=@a9Q P w K mg base cls T.L_law_turns Z h_law_cells
 have h_law_behind:=@a8O P w K mg base cls T.L_law_behind Z h_law_turn_done h_law_turns
 have h_law_come:=@b0Z P w K mg base cls T.L_law_come Z
 have h_law_word:=@b0V P w K mg base cls T.L_law_word Z
 have h_law_comers:=@a8M P w K mg base cls T.L_law_comers Z h_law_word
 have h_law_next:=@b0W P w K mg base cls T.L_law_next Z h_law_behind h_law_come h_law_comers
 have h_law_number:=@a8L P w K mg base cls T.L_law_number Z h_law_mixed
 have h_law_boxes:=@a9T P w K mg base cls T.L_law_boxes Z h_law_mixed h_law_number
 have h_law_deed:=@b0Y P w K mg base cls T.L_law_deed Z h_law_mixed h_law_number
 have h_law_row:=@b2V P w K mg base cls T.L_law_row Z h_law_deed h_law_mixed
 have h_law_program:=@a7X P w K mg base cls T.L_law_program Z h_law_boxes h_law_mixed h_law_row
 have h_places_of:=@a9P P w K mg base cls T.L_places_of Z
 have h_deed_at:=@b2Y P w K mg base cls T.L_deed_at Z h_places_of
 have h_is_at_end:=@a9W P w K mg base cls T.L_is_at_end Z h_places_of
 have h_none_watched:=@a7l P w K mg base cls T.L_none_watched Z h_deed_at h_places_of
 have h_size_of:=@b2U P w K mg base cls T.L_size_of Z
 have h_cells_of:=@b01 P w K mg base cls T.L_cells_of Z h_size_of
 have h_promise_of:=@a8K P w K mg base cls T.L_promise_of hC hB Z h_cells_of
 have h_i_Deed:=@b4J P w K mg base cls T.L_i_Deed Z T.fld_plan
 have h_i_Handed:=@b00 P w K mg base cls T.L_i_Handed Z h_i_Deed
 have h_i_Anew:=@b4L P w K mg base cls T.L_i_Anew Z T.fld_check h_i_Handed
 have h_i_Promise:=@a9X P w K mg base cls T.L_i_Promise Z h_i_Deed
 have h_i_Comparing:=@a7Z P w K mg base cls T.L_i_Comparing Z h_i_Promise
 have h_i_Copy:=@b4K P w K mg base cls T.L_i_Copy Z h_i_Deed
 have h_i_Grow:=@b4I P w K mg base cls T.L_i_Grow Z T.fld_number T.fld_size h_i_Handed
 have h_i_Put:=@ok_i_Put P w K mg base cls T.L_i_Put Z T.fld_numbers h_i_Deed
 have h_i_Still:=@b2W P w K mg base cls T.L_i_Still Z h_i_Deed
 have h_i_Tick:=@b4H P w K mg base cls T.L_i_Tick Z h_i_Deed
 have h_i_Untouched:=@a7Y P w K mg base cls T.L_i_Untouched Z h_i_Promise
 have h_deed_of:=@b2X P w K mg base cls T.L_deed_of Z h_cells_of h_i_Anew h_i_Comparing h_i_Copy h_i_Grow h_i_Put h_i_Still h_i_Tick h_i_Untouched
 have h_Deed_reads:=@a8P P w K mg base cls T.L_Deed_reads Z T.fld_plan
 have h_Deed_writes:=@a70 P w K mg base cls T.L_Deed_writes Z T.fld_plan
 have h_touches:=@b2T P w K mg base cls T.L_touches Z h_cells_of h_deed_at h_deed_of h_Deed_reads h_Deed_writes
 have h_broken_by:=@a9Y P w K mg base cls T.L_broken_by Z h_deed_at h_is_at_end h_none_watched h_promise_of h_touches h_lams
 have h_breaks:=@b4M P w K mg base cls T.L_breaks Z h_broken_by
 exact ok_law L Z h_law_alike h_law_begin h_law_breaks h_law_mixed h_law_next h_law_program h_breaks
end
unseal PySem.wpAny
theorem walk {l:PySem.W.OpenLaw} {q:Program} {loose:List Str} {XP:(Str->Option Value)->Heap->Prop} {YP:World->Heap->Prop} {d:DefRec} {K:Params->Frag} (T:∀ns:List Int,ns.length<=63->f_law [.lst (ns.map D.int)]=some (.ok (.sh (.bl true)))) {dP:DefRec} (hrec:(recsOf q).find? (fun e=>e.name == ("promise_of" : Str))=some dP) (htab:∀w:World,PySem.W.tabIn (K w.params) "promise_of" = some (CC,PT)) (hno:∀w:World,PySem.W.noTabs (K w.params)=true) (hn:l.most=some 63) (hdf:d.params.defaults=[]) (hdn:d.name = "law")
  (hY:∀(w:World) (h:Heap),YP w h->(K w.params).In h) (F:∀(w:World) (mg:Str->Option Value) (h:Heap),(K w.params).In h->h.Ns mainGlobals mg->(∃cls,Defs (K w.params) mg cls)/\Blt mg):PySem.W.WalkO q loose XP YP l.row.toRowW d [] (fun f vs=>PySem.call f vs):=
 b46 (y := "promise_of") (cc:=CC) (PT:=PT) (good:=good) (k:=10) (x := "_law_script") (by decide) hn hdf hrec htab hno hY fun w mg fa h KX G hm=>by
  obtain ⟨⟨cls,T1⟩,Z⟩:=F w mg h KX G
  obtain ⟨f,fd,Fl,hm2,_⟩:=T1.L_law.ex
  rw [hdn,hm2] at hm
  cases hm
  obtain ⟨oc,od,kV,doc,pm,an,cdv,ct,osl,e,_⟩:=id Fl.ex
  exact ⟨fd,fun s u=>by rw [e];exact .of_eq rfl,fun base hC hB=>law_spT (ok_all (cls:=cls) T1 hC hB Z Fl) rfl rfl T⟩
set_option maxHeartbeats 0 in
theorem defs_mk {K:Frag} {h:Heap} {mg:Str->Option Value} (X:K.In h) (G:h.Ns mainGlobals mg)
  {C0 C1 C2 C3 C4 C5 C6 C7 C8 C9 C10:Addr}
  {g0:Addr} {oc0:Value} {od0 an0:Option Addr} {sl0:Array (Option Value)} {kV0 dc0 pm0 cd0 ct0:Value}
  {g1:Addr} {oc1:Value} {od1 an1:Option Addr} {sl1:Array (Option Value)} {kV1 dc1 pm1 cd1 ct1:Value}
  {g2:Addr} {oc2:Value} {od2 an2:Option Addr} {sl2:Array (Option Value)} {kV2 dc2 pm2 cd2 ct2:Value}
  {g3:Addr} {oc3:Value} {od3 an3:Option Addr} {sl3:Array (Option Value)} {kV3 dc3 pm3 cd3 ct3:Value}
  {g4:Addr} {oc4:Value} {od4 an4:Option Addr} {sl4:Array (Option Value)} {kV4 dc4 pm4 cd4 ct4:Value}
  {g5:Addr} {oc5:Value} {od5 an5:Option Addr} {sl5:Array (Option Value)} {kV5 dc5 pm5 cd5 ct5:Value}
  {g6:Addr} {oc6:Value} {od6 an6:Option Addr} {sl6:Array (Option Value)} {kV6 dc6 pm6 cd6 ct6:Value}
  {g7:Addr} {oc7:Value} {od7 an7:Option Addr} {sl7:Array (Option Value)} {kV7 dc7 pm7 cd7 ct7:Value}
  {g8:Addr} {oc8:Value} {od8 an8:Option Addr} {sl8:Array (Option Value)} {kV8 dc8 pm8 cd8 ct8:Value}
  {g9:Addr} {oc9:Value} {od9 an9:Option Addr} {sl9:Array (Option Value)} {kV9 dc9 pm9 cd9 ct9:Value}
  {g10:Addr} {oc10:Value} {od10 an10:Option Addr} {sl10:Array (Option Value)} {kV10 dc10 pm10 cd10 ct10:Value}
  {g11:Addr} {oc11:Value} {od11 an11:Option Addr} {sl11:Array (Option Value)} {kV11 dc11 pm11 cd11 ct11:Value}
  {g12:Addr} {oc12:Value} {od12 an12:Option Addr} {sl12:Array (Option Value)} {kV12 dc12 pm12 cd12 ct12:Value}
  {g13:Addr} {oc13:Value} {od13 an13:Option Addr} {sl13:Array (Option Value)} {kV13 dc13 pm13 cd13 ct13:Value}
  {g14:Addr} {oc14:Value} {od14 an14:Option Addr} {sl14:Array (Option Value)} {kV14 dc14 pm14 cd14 ct14:Value}
  {g15:Addr} {oc15:Value} {od15 an15:Option Addr} {sl15:Array (Option Value)} {kV15 dc15 pm15 cd15 ct15:Value}
  {g16:Addr} {oc16:Value} {od16 an16:Option Addr} {sl16:Array (Option Value)} {kV16 dc16 pm16 cd16 ct16:Value}
  {g17:Addr} {oc17:Value} {od17 an17:Option Addr} {sl17:Array (Option Value)} {kV17 dc17 pm17 cd17 ct17:Value}
  {g18:Addr} {oc18:Value} {od18 an18:Option Addr} {sl18:Array (Option Value)} {kV18 dc18 pm18 cd18 ct18:Value}
  {g19:Addr} {oc19:Value} {od19 an19:Option Addr} {sl19:Array (Option Value)} {kV19 dc19 pm19 cd19 ct19:Value}
  {g20:Addr} {oc20:Value} {od20 an20:Option Addr} {sl20:Array (Option Value)} {kV20 dc20 pm20 cd20 ct20:Value}
  {g21:Addr} {oc21:Value} {od21 an21:Option Addr} {sl21:Array (Option Value)} {kV21 dc21 pm21 cd21 ct21:Value}
  {g22:Addr} {oc22:Value} {od22 an22:Option Addr} {sl22:Array (Option Value)} {kV22 dc22 pm22 cd22 ct22:Value}
  {g23:Addr} {oc23:Value} {od23 an23:Option Addr} {sl23:Array (Option Value)} {kV23 dc23 pm23 cd23 ct23:Value}
  {g24:Addr} {oc24:Value} {od24 an24:Option Addr} {sl24:Array (Option Value)} {kV24 dc24 pm24 cd24 ct24:Value}
  {g25:Addr} {oc25:Value} {od25 an25:Option Addr} {sl25:Array (Option Value)} {kV25 dc25 pm25 ct25:Value}
  {g26:Addr} {oc26:Value} {od26 an26:Option Addr} {sl26:Array (Option Value)} {kV26 dc26 pm26 cd26 ct26:Value}
  {g27:Addr} {oc27:Value} {od27 an27:Option Addr} {sl27:Array (Option Value)} {kV27 dc27 pm27 cd27 ct27:Value}
  {g28:Addr} {oc28:Value} {od28 an28:Option Addr} {sl28:Array (Option Value)} {kV28 dc28 pm28 cd28 ct28:Value}
  {g29:Addr} {oc29:Value} {od29 an29:Option Addr} {sl29:Array (Option Value)} {kV29 dc29 pm29 cd29 ct29:Value}
  {g30:Addr} {oc30:Value} {od30 an30:Option Addr} {sl30:Array (Option Value)} {kV30 dc30 pm30 cd30 ct30:Value}
  {g31:Addr} {oc31:Value} {od31 an31:Option Addr} {sl31:Array (Option Value)} {kV31 dc31 pm31 cd31 ct31:Value}
  {g32:Addr} {oc32:Value} {od32 an32:Option Addr} {sl32:Array (Option Value)} {kV32 dc32 pm32 cd32 ct32:Value}
  {g33:Addr} {oc33:Value} {od33 an33:Option Addr} {sl33:Array (Option Value)} {kV33 dc33 pm33 cd33 ct33:Value}
  {g34:Addr} {oc34:Value} {od34 an34:Option Addr} {sl34:Array (Option Value)} {kV34 dc34 pm34 cd34 ct34:Value}
  {g35:Addr} {oc35:Value} {od35 an35:Option Addr} {sl35:Array (Option Value)} {kV35 dc35 pm35 cd35 ct35:Value}
  {g36:Addr} {oc36:Value} {od36 an36:Option Addr} {sl36:Array (Option Value)} {kV36 dc36 pm36 cd36 ct36:Value}
  {g37:Addr} {oc37:Value} {od37 an37:Option Addr} {sl37:Array (Option Value)} {kV37 dc37 pm37 cd37 ct37:Value}
  {g38:Addr} {oc38:Value} {od38 an38:Option Addr} {sl38:Array (Option Value)} {kV38 dc38 pm38 cd38 ct38:Value}
  {g39:Addr} {oc39:Value} {od39 an39:Option Addr} {sl39:Array (Option Value)} {kV39 dc39 pm39 cd39 ct39:Value}
  {g40:Addr} {oc40:Value} {od40 an40:Option Addr} {sl40:Array (Option Value)} {kV40 dc40 pm40 cd40 ct40:Value}
  {g41:Addr} {oc41:Value} {od41 an41:Option Addr} {sl41:Array (Option Value)} {kV41 dc41 pm41 cd41 ct41:Value}
  {g42:Addr} {oc42:Value} {od42 an42:Option Addr} {sl42:Array (Option Value)} {kV42 dc42 pm42 cd42 ct42:Value}
  {g43:Addr} {oc43:Value} {od43 an43:Option Addr} {sl43:Array (Option Value)} {kV43 dc43 pm43 cd43 ct43:Value}
  (ca0:nsIn K mainGlobals "Deed" = some (some (.ref C0)))
  (cp0:plainGet K C0 Str.empty=true)
  (ch0:hasDictIn K C0=true)
  (co0:plainOver K C0=true)
  (cs0:findIn K (.ref C0) "__setattr__" = some (some (.builtin "object.__setattr__")))
  (ca1:nsIn K mainGlobals "Promise" = some (some (.ref C1)))
  (cp1:plainGet K C1 Str.empty=true)
  (ch1:hasDictIn K C1=true)
  (co1:plainOver K C1=true)
  (cs1:findIn K (.ref C1) "__setattr__" = some (some (.builtin "object.__setattr__")))
  (ca2:nsIn K mainGlobals "Comparing" = some (some (.ref C2)))
  (cp2:plainGet K C2 Str.empty=true)
  (ch2:hasDictIn K C2=true)
  (co2:plainOver K C2=true)
  (cs2:findIn K (.ref C2) "__setattr__" = some (some (.builtin "object.__setattr__")))
  (ca3:nsIn K mainGlobals "Untouched" = some (some (.ref C3)))
  (cp3:plainGet K C3 Str.empty=true)
  (ch3:hasDictIn K C3=true)
  (co3:plainOver K C3=true)
  (cs3:findIn K (.ref C3) "__setattr__" = some (some (.builtin "object.__setattr__")))
  (ca4:nsIn K mainGlobals "Still" = some (some (.ref C4)))
  (cp4:plainGet K C4 Str.empty=true)
  (ch4:hasDictIn K C4=true)
  (co4:plainOver K C4=true)
  (cs4:findIn K (.ref C4) "__setattr__" = some (some (.builtin "object.__setattr__")))
  (ca5:nsIn K mainGlobals "Put" = some (some (.ref C5)))
  (cp5:plainGet K C5 Str.empty=true)
  (ch5:hasDictIn K C5=true)
  (co5:plainOver K C5=true)
  (cs5:findIn K (.ref C5) "__setattr__" = some (some (.builtin "object.__setattr__")))
  (ca6:nsIn K mainGlobals "Copy" = some (some (.ref C6)))
  (cp6:plainGet K C6 Str.empty=true)
  (ch6:hasDictIn K C6=true)
  (co6:plainOver K C6=true)
  (cs6:findIn K (.ref C6) "__setattr__" = some (some (.builtin "object.__setattr__")))
  (ca7:nsIn K mainGlobals "Tick" = some (some (.ref C7)))
  (cp7:plainGet K C7 Str.empty=true)
  (ch7:hasDictIn K C7=true)
  (co7:plainOver K C7=true)
  (cs7:findIn K (.ref C7) "__setattr__" = some (some (.builtin "object.__setattr__")))
  (ca8:nsIn K mainGlobals "Handed" = some (some (.ref C8)))
  (cp8:plainGet K C8 Str.empty=true)
  (ch8:hasDictIn K C8=true)
  (co8:plainOver K C8=true)
  (cs8:findIn K (.ref C8) "__setattr__" = some (some (.builtin "object.__setattr__")))
  (ca9:nsIn K mainGlobals "Grow" = some (some (.ref C9)))
  (cp9:plainGet K C9 Str.empty=true)
  (ch9:hasDictIn K C9=true)
  (co9:plainOver K C9=true)
  (cs9:findIn K (.ref C9) "__setattr__" = some (some (.builtin "object.__setattr__")))
  (ca10:nsIn K mainGlobals "Anew" = some (some (.ref C10)))
  (cp10:plainGet K C10 Str.empty=true)
  (ch10:hasDictIn K C10=true)
  (co10:plainOver K C10=true)
  (cs10:findIn K (.ref C10) "__setattr__" = some (some (.builtin "object.__setattr__")))
  (a0:nsIn K mainGlobals "_law_alike" = some (some (.ref g0)))
  (l0:K.lookup g0=some ⟨oc0,od0,.func (fnOf "_law_alike" "_law_alike" (a0v a3c) (a0q a3c) (a0g a3c) .none kV0 dc0 pm0 an0 cd0 ct0),sl0⟩)
  (c0:codeIn K cd0 "_law_alike" = true)
  (k0:keepIn K (.ref g0)=true)
  (a1:nsIn K mainGlobals "_law_begin" = some (some (.ref g1)))
  (l1:K.lookup g1=some ⟨oc1,od1,.func (fnOf "_law_begin" "_law_begin" (a0v a3b) (a0q a3b) (a0g a3b) .none kV1 dc1 pm1 an1 cd1 ct1),sl1⟩)
  (c1:codeIn K cd1 "_law_begin" = true)
  (k1:keepIn K (.ref g1)=true)
  (a2:nsIn K mainGlobals "_law_cells" = some (some (.ref g2)))
  (l2:K.lookup g2=some ⟨oc2,od2,.func (fnOf "_law_cells" "_law_cells" (a0v a29) (a0q a29) (a0g a29) .none kV2 dc2 pm2 an2 cd2 ct2),sl2⟩)
  (c2:codeIn K cd2 "_law_cells" = true)
  (k2:keepIn K (.ref g2)=true)
  (a3:nsIn K mainGlobals "_law_kept" = some (some (.ref g3)))
  (l3:K.lookup g3=some ⟨oc3,od3,.func (fnOf "_law_kept" "_law_kept" (a0v a3N) (a0q a3N) (a0g a3N) .none kV3 dc3 pm3 an3 cd3 ct3),sl3⟩)
  (c3:codeIn K cd3 "_law_kept" = true)
  (k3:keepIn K (.ref g3)=true)
  (a4:nsIn K mainGlobals "_law_touched" = some (some (.ref g4)))
  (l4:K.lookup g4=some ⟨oc4,od4,.func (fnOf "_law_touched" "_law_touched" (a0v a2a) (a0q a2a) (a0g a2a) .none kV4 dc4 pm4 an4 cd4 ct4),sl4⟩)
  (c4:codeIn K cd4 "_law_touched" = true)
  (k4:keepIn K (.ref g4)=true)
  (a5:nsIn K mainGlobals "_law_breaks" = some (some (.ref g5)))
  (l5:K.lookup g5=some ⟨oc5,od5,.func (fnOf "_law_breaks" "_law_breaks" (a0v a2C) (a0q a2C) (a0g a2C) .none kV5 dc5 pm5 an5 cd5 ct5),sl5⟩)
  (c5:codeIn K cd5 "_law_breaks" = true)
  (k5:keepIn K (.ref g5)=true)
  (a6:nsIn K mainGlobals "_law_mixed" = some (some (.ref g6)))
  (l6:K.lookup g6=some ⟨oc6,od6,.func (fnOf "_law_mixed" "_law_mixed" (a0v a28) (a0q a28) (a0g a28) .none kV6 dc6 pm6 an6 cd6 ct6),sl6⟩)
  (c6:codeIn K cd6 "_law_mixed" = true)
  (k6:keepIn K (.ref g6)=true)
  (a7:nsIn K mainGlobals "_law_turn_done" = some (some (.ref g7)))
  (l7:K.lookup g7=some ⟨oc7,od7,.func (fnOf "_law_turn_done" "_law_turn_done" (a0v a1C) (a0q a1C) (a0g a1C) .none kV7 dc7 pm7 an7 cd7 ct7),sl7⟩)
  (c7:codeIn K cd7 "_law_turn_done" = true)
  (k7:keepIn K (.ref g7)=true)
  (a8:nsIn K mainGlobals "_law_turns" = some (some (.ref g8)))
  (l8:K.lookup g8=some ⟨oc8,od8,.func (fnOf "_law_turns" "_law_turns" (a0v a27) (a0q a27) (a0g a27) .none kV8 dc8 pm8 an8 cd8 ct8),sl8⟩)
  (c8:codeIn K cd8 "_law_turns" = true)
  (k8:keepIn K (.ref g8)=true)
  (a9:nsIn K mainGlobals "_law_behind" = some (some (.ref g9)))
  (l9:K.lookup g9=some ⟨oc9,od9,.func (fnOf "_law_behind" "_law_behind" (a0v a2D) (a0q a2D) (a0g a2D) .none kV9 dc9 pm9 an9 cd9 ct9),sl9⟩)
  (c9:codeIn K cd9 "_law_behind" = true)
  (k9:keepIn K (.ref g9)=true)
  (a10:nsIn K mainGlobals "_law_come" = some (some (.ref g10)))
  (l10:K.lookup g10=some ⟨oc10,od10,.func (fnOf "_law_come" "_law_come" (a0v a3P) (a0q a3P) (a0g a3P) .none kV10 dc10 pm10 an10 cd10 ct10),sl10⟩)
  (c10:codeIn K cd10 "_law_come" = true)
  (k10:keepIn K (.ref g10)=true)
  (a11:nsIn K mainGlobals "_law_word" = some (some (.ref g11)))
  (l11:K.lookup g11=some ⟨oc11,od11,.func (fnOf "_law_word" "_law_word" (a0v a3L) (a0q a3L) (a0g a3L) .none kV11 dc11 pm11 an11 cd11 ct11),sl11⟩)
  (c11:codeIn K cd11 "_law_word" = true)
  (k11:keepIn K (.ref g11)=true)
  (a12:nsIn K mainGlobals "_law_comers" = some (some (.ref g12)))
  (l12:K.lookup g12=some ⟨oc12,od12,.func (fnOf "_law_comers" "_law_comers" (a0v a2B) (a0q a2B) (a0g a2B) .none kV12 dc12 pm12 an12 cd12 ct12),sl12⟩)
  (c12:codeIn K cd12 "_law_comers" = true)
  (k12:keepIn K (.ref g12)=true)
  (a13:nsIn K mainGlobals "_law_next" = some (some (.ref g13)))
  (l13:K.lookup g13=some ⟨oc13,od13,.func (fnOf "_law_next" "_law_next" (a0v a3M) (a0q a3M) (a0g a3M) .none kV13 dc13 pm13 an13 cd13 ct13),sl13⟩)
  (c13:codeIn K cd13 "_law_next" = true)
  (k13:keepIn K (.ref g13)=true)
  (a14:nsIn K mainGlobals "_law_number" = some (some (.ref g14)))
  (l14:K.lookup g14=some ⟨oc14,od14,.func (fnOf "_law_number" "_law_number" (a0v a2A) (a0q a2A) (a0g a2A) .none kV14 dc14 pm14 an14 cd14 ct14),sl14⟩)
  (c14:codeIn K cd14 "_law_number" = true)
  (k14:keepIn K (.ref g14)=true)
  (a15:nsIn K mainGlobals "_law_boxes" = some (some (.ref g15)))
  (l15:K.lookup g15=some ⟨oc15,od15,.func (fnOf "_law_boxes" "_law_boxes" (a0v a3a) (a0q a3a) (a0g a3a) .none kV15 dc15 pm15 an15 cd15 ct15),sl15⟩)
  (c15:codeIn K cd15 "_law_boxes" = true)
  (k15:keepIn K (.ref g15)=true)
  (a16:nsIn K mainGlobals "_law_deed" = some (some (.ref g16)))
  (l16:K.lookup g16=some ⟨oc16,od16,.func (fnOf "_law_deed" "_law_deed" (a0v a3O) (a0q a3O) (a0g a3O) .none kV16 dc16 pm16 an16 cd16 ct16),sl16⟩)
  (c16:codeIn K cd16 "_law_deed" = true)
  (k16:keepIn K (.ref g16)=true)
  (a17:nsIn K mainGlobals "_law_row" = some (some (.ref g17)))
  (l17:K.lookup g17=some ⟨oc17,od17,.func (fnOf "_law_row" "_law_row" (a0v a4u) (a0q a4u) (a0g a4u) .none kV17 dc17 pm17 an17 cd17 ct17),sl17⟩)
  (c17:codeIn K cd17 "_law_row" = true)
  (k17:keepIn K (.ref g17)=true)
  (a18:nsIn K mainGlobals "_law_program" = some (some (.ref g18)))
  (l18:K.lookup g18=some ⟨oc18,od18,.func (fnOf "_law_program" "_law_program" (a0v a2b) (a0q a2b) (a0g a2b) .none kV18 dc18 pm18 an18 cd18 ct18),sl18⟩)
  (c18:codeIn K cd18 "_law_program" = true)
  (k18:keepIn K (.ref g18)=true)
  (a19:nsIn K mainGlobals "places_of" = some (some (.ref g19)))
  (l19:K.lookup g19=some ⟨oc19,od19,.func (fnOf "places_of" "places_of" (a0v a26) (a0q a26) (a0g a26) .none kV19 dc19 pm19 an19 cd19 ct19),sl19⟩)
  (c19:codeIn K cd19 "places_of" = true)
  (k19:keepIn K (.ref g19)=true)
  (a20:nsIn K mainGlobals "deed_at" = some (some (.ref g20)))
  (l20:K.lookup g20=some ⟨oc20,od20,.func (fnOf "deed_at" "deed_at" (a0v a4x) (a0q a4x) (a0g a4x) .none kV20 dc20 pm20 an20 cd20 ct20),sl20⟩)
  (c20:codeIn K cd20 "deed_at" = true)
  (k20:keepIn K (.ref g20)=true)
  (a21:nsIn K mainGlobals "is_at_end" = some (some (.ref g21)))
  (l21:K.lookup g21=some ⟨oc21,od21,.func (fnOf "is_at_end" "is_at_end" (a0v a3d) (a0q a3d) (a0g a3d) .none kV21 dc21 pm21 an21 cd21 ct21),sl21⟩)
  (c21:codeIn K cd21 "is_at_end" = true)
  (k21:keepIn K (.ref g21)=true)
  (a22:nsIn K mainGlobals "none_watched" = some (some (.ref g22)))
  (l22:K.lookup g22=some ⟨oc22,od22,.func (fnOf "none_watched" "none_watched" (a0v a1Q) (a0q a1Q) (a0g a1Q) .none kV22 dc22 pm22 an22 cd22 ct22),sl22⟩)
  (c22:codeIn K cd22 "none_watched" = true)
  (k22:keepIn K (.ref g22)=true)
  (a23:nsIn K mainGlobals "size_of" = some (some (.ref g23)))
  (l23:K.lookup g23=some ⟨oc23,od23,.func (fnOf "size_of" "size_of" (a0v a4t) (a0q a4t) (a0g a4t) .none kV23 dc23 pm23 an23 cd23 ct23),sl23⟩)
  (c23:codeIn K cd23 "size_of" = true)
  (k23:keepIn K (.ref g23)=true)
  (a24:nsIn K mainGlobals "cells_of" = some (some (.ref g24)))
  (l24:K.lookup g24=some ⟨oc24,od24,.func (fnOf "cells_of" "cells_of" (a0v a3R) (a0q a3R) (a0g a3R) .none kV24 dc24 pm24 an24 cd24 ct24),sl24⟩)
  (c24:codeIn K cd24 "cells_of" = true)
  (k24:keepIn K (.ref g24)=true)
  (a25:nsIn K mainGlobals "promise_of" = some (some (.ref g25)))
  (l25:K.lookup g25=some ⟨oc25,od25,.func (fnOf "promise_of" "promise_of" (a0v a05) (a0q a05) (a0g a05) .none kV25 dc25 pm25 an25 (.ref CC) ct25),sl25⟩)
  (c25:codeIn K (.ref CC) "promise_of" = true)
  (k25:keepIn K (.ref g25)=true)
  (f26:findIn K (.ref C0) "__init__" = some (some (.ref g26)))
  (l26:K.lookup g26=some ⟨oc26,od26,.func (fnOf "__init__" "Deed.__init__" (a0v a5y) (a0q a5y) (a0g a5y) .none kV26 dc26 pm26 an26 cd26 ct26),sl26⟩)
  (c26:codeIn K cd26 "Deed.__init__" = true)
  (k26:keepIn K (.ref g26)=true)
  (i26:isFn K (.ref g26)=true)
  (m26:makesIn K C0=true)
  (n26:keepIn K (.ref C0)=true)
  (o26:findCls K (.ref C0) (.type "type") "__init__" = some (.val (.ref g26)))
  (q26:specialIn K (.ref C0) "__getattribute__" = some (some (.builtin "type.__getattribute__")))
  (r26:readsIn K C0 (.type "type")=true)
  (f27:findIn K (.ref C8) "__init__" = some (some (.ref g27)))
  (l27:K.lookup g27=some ⟨oc27,od27,.func (fnOf "__init__" "Handed.__init__" (a0v a3Q) (a0q a3Q) (a0g a3Q) .none kV27 dc27 pm27 an27 cd27 ct27),sl27⟩)
  (c27:codeIn K cd27 "Handed.__init__" = true)
  (k27:keepIn K (.ref g27)=true)
  (i27:isFn K (.ref g27)=true)
  (m27:makesIn K C8=true)
  (n27:keepIn K (.ref C8)=true)
  (o27:findCls K (.ref C8) (.type "type") "__init__" = some (.val (.ref g27)))
  (q27:specialIn K (.ref C8) "__getattribute__" = some (some (.builtin "type.__getattribute__")))
  (r27:readsIn K C8 (.type "type")=true)
  (f28:findIn K (.ref C10) "__init__" = some (some (.ref g28)))
  (l28:K.lookup g28=some ⟨oc28,od28,.func (fnOf "__init__" "Anew.__init__" (a0v a5A) (a0q a5A) (a0g a5A) .none kV28 dc28 pm28 an28 cd28 ct28),sl28⟩)
  (c28:codeIn K cd28 "Anew.__init__" = true)
  (k28:keepIn K (.ref g28)=true)
  (i28:isFn K (.ref g28)=true)
  (m28:makesIn K C10=true)
  (n28:keepIn K (.ref C10)=true)
  (o28:findCls K (.ref C10) (.type "type") "__init__" = some (.val (.ref g28)))
  (q28:specialIn K (.ref C10) "__getattribute__" = some (some (.builtin "type.__getattribute__")))
  (r28:readsIn K C10 (.type "type")=true)
  (f29:findIn K (.ref C1) "__init__" = some (some (.ref g29)))
  (l29:K.lookup g29=some ⟨oc29,od29,.func (fnOf "__init__" "Promise.__init__" (a0v a3e) (a0q a3e) (a0g a3e) .none kV29 dc29 pm29 an29 cd29 ct29),sl29⟩)
  (c29:codeIn K cd29 "Promise.__init__" = true)
  (k29:keepIn K (.ref g29)=true)
  (i29:isFn K (.ref g29)=true)
  (m29:makesIn K C1=true)
  (n29:keepIn K (.ref C1)=true)
  (o29:findCls K (.ref C1) (.type "type") "__init__" = some (.val (.ref g29)))
  (q29:specialIn K (.ref C1) "__getattribute__" = some (some (.builtin "type.__getattribute__")))
  (r29:readsIn K C1 (.type "type")=true)
  (f30:findIn K (.ref C2) "__init__" = some (some (.ref g30)))
  (l30:K.lookup g30=some ⟨oc30,od30,.func (fnOf "__init__" "Comparing.__init__" (a0v a2d) (a0q a2d) (a0g a2d) .none kV30 dc30 pm30 an30 cd30 ct30),sl30⟩)
  (c30:codeIn K cd30 "Comparing.__init__" = true)
  (k30:keepIn K (.ref g30)=true)
  (i30:isFn K (.ref g30)=true)
  (m30:makesIn K C2=true)
  (n30:keepIn K (.ref C2)=true)
  (o30:findCls K (.ref C2) (.type "type") "__init__" = some (.val (.ref g30)))
  (q30:specialIn K (.ref C2) "__getattribute__" = some (some (.builtin "type.__getattribute__")))
  (r30:readsIn K C2 (.type "type")=true)
  (f31:findIn K (.ref C6) "__init__" = some (some (.ref g31)))
  (l31:K.lookup g31=some ⟨oc31,od31,.func (fnOf "__init__" "Copy.__init__" (a0v a5z) (a0q a5z) (a0g a5z) .none kV31 dc31 pm31 an31 cd31 ct31),sl31⟩)
  (c31:codeIn K cd31 "Copy.__init__" = true)
  (k31:keepIn K (.ref g31)=true)
  (i31:isFn K (.ref g31)=true)
  (m31:makesIn K C6=true)
  (n31:keepIn K (.ref C6)=true)
  (o31:findCls K (.ref C6) (.type "type") "__init__" = some (.val (.ref g31)))
  (q31:specialIn K (.ref C6) "__getattribute__" = some (some (.builtin "type.__getattribute__")))
  (r31:readsIn K C6 (.type "type")=true)
  (f32:findIn K (.ref C9) "__init__" = some (some (.ref g32)))
  (l32:K.lookup g32=some ⟨oc32,od32,.func (fnOf "__init__" "Grow.__init__" (a0v a5x) (a0q a5x) (a0g a5x) .none kV32 dc32 pm32 an32 cd32 ct32),sl32⟩)
  (c32:codeIn K cd32 "Grow.__init__" = true)
  (k32:keepIn K (.ref g32)=true)
  (i32:isFn K (.ref g32)=true)
  (m32:makesIn K C9=true)
  (n32:keepIn K (.ref C9)=true)
  (o32:findCls K (.ref C9) (.type "type") "__init__" = some (.val (.ref g32)))
  (q32:specialIn K (.ref C9) "__getattribute__" = some (some (.builtin "type.__getattribute__")))
  (r32:readsIn K C9 (.type "type")=true)
  (f33:findIn K (.ref C5) "__init__" = some (some (.ref g33)))
  (l33:K.lookup g33=some ⟨oc33,od33,.func (fnOf "__init__" "Put.__init__" (a0v a6E) (a0q a6E) (a0g a6E) .none kV33 dc33 pm33 an33 cd33 ct33),sl33⟩)
  (c33:codeIn K cd33 "Put.__init__" = true)
  (k33:keepIn K (.ref g33)=true)
  (i33:isFn K (.ref g33)=true)
  (m33:makesIn K C5=true)
  (n33:keepIn K (.ref C5)=true)
  (o33:findCls K (.ref C5) (.type "type") "__init__" = some (.val (.ref g33)))
  (q33:specialIn K (.ref C5) "__getattribute__" = some (some (.builtin "type.__getattribute__")))
  (r33:readsIn K C5 (.type "type")=true)
  (f34:findIn K (.ref C4) "__init__" = some (some (.ref g34)))
  (l34:K.lookup g34=some ⟨oc34,od34,.func (fnOf "__init__" "Still.__init__" (a0v a4v) (a0q a4v) (a0g a4v) .none kV34 dc34 pm34 an34 cd34 ct34),sl34⟩)
  (c34:codeIn K cd34 "Still.__init__" = true)
  (k34:keepIn K (.ref g34)=true)
  (i34:isFn K (.ref g34)=true)
  (m34:makesIn K C4=true)
  (n34:keepIn K (.ref C4)=true)
  (o34:findCls K (.ref C4) (.type "type") "__init__" = some (.val (.ref g34)))
  (q34:specialIn K (.ref C4) "__getattribute__" = some (some (.builtin "type.__getattribute__")))
  (r34:readsIn K C4 (.type "type")=true)
  (f35:findIn K (.ref C7) "__init__" = some (some (.ref g35)))
  (l35:K.lookup g35=some ⟨oc35,od35,.func (fnOf "__init__" "Tick.__init__" (a0v a5w) (a0q a5w) (a0g a5w) .none kV35 dc35 pm35 an35 cd35 ct35),sl35⟩)
  (c35:codeIn K cd35 "Tick.__init__" = true)
  (k35:keepIn K (.ref g35)=true)
  (i35:isFn K (.ref g35)=true)
  (m35:makesIn K C7=true)
  (n35:keepIn K (.ref C7)=true)
  (o35:findCls K (.ref C7) (.type "type") "__init__" = some (.val (.ref g35)))
  (q35:specialIn K (.ref C7) "__getattribute__" = some (some (.builtin "type.__getattribute__")))
  (r35:readsIn K C7 (.type "type")=true)
  (f36:findIn K (.ref C3) "__init__" = some (some (.ref g36)))
  (l36:K.lookup g36=some ⟨oc36,od36,.func (fnOf "__init__" "Untouched.__init__" (a0v a2c) (a0q a2c) (a0g a2c) .none kV36 dc36 pm36 an36 cd36 ct36),sl36⟩)
  (c36:codeIn K cd36 "Untouched.__init__" = true)
  (k36:keepIn K (.ref g36)=true)
  (i36:isFn K (.ref g36)=true)
  (m36:makesIn K C3=true)
  (n36:keepIn K (.ref C3)=true)
  (o36:findCls K (.ref C3) (.type "type") "__init__" = some (.val (.ref g36)))
  (q36:specialIn K (.ref C3) "__getattribute__" = some (some (.builtin "type.__getattribute__")))
  (r36:readsIn K C3 (.type "type")=true)
  (a37:nsIn K mainGlobals "deed_of" = some (some (.ref g37)))
  (l37:K.lookup g37=some ⟨oc37,od37,.func (fnOf "deed_of" "deed_of" (a0v a4w) (a0q a4w) (a0g a4w) .none kV37 dc37 pm37 an37 cd37 ct37),sl37⟩)
  (c37:codeIn K cd37 "deed_of" = true)
  (k37:keepIn K (.ref g37)=true)
  (f38_0:findIn K (.ref C0) "reads" = some (some (.ref g38)))
  (f38_1:findIn K (.ref C1) "reads" = some (some (.ref g38)))
  (f38_2:findIn K (.ref C2) "reads" = some (some (.ref g38)))
  (f38_3:findIn K (.ref C3) "reads" = some (some (.ref g38)))
  (f38_4:findIn K (.ref C4) "reads" = some (some (.ref g38)))
  (f38_5:findIn K (.ref C5) "reads" = some (some (.ref g38)))
  (f38_6:findIn K (.ref C6) "reads" = some (some (.ref g38)))
  (f38_7:findIn K (.ref C7) "reads" = some (some (.ref g38)))
  (f38_8:findIn K (.ref C8) "reads" = some (some (.ref g38)))
  (f38_9:findIn K (.ref C9) "reads" = some (some (.ref g38)))
  (f38_10:findIn K (.ref C10) "reads" = some (some (.ref g38)))
  (l38:K.lookup g38=some ⟨oc38,od38,.func (fnOf "reads" "Deed.reads" (a0v a2E) (a0q a2E) (a0g a2E) .none kV38 dc38 pm38 an38 cd38 ct38),sl38⟩)
  (c38:codeIn K cd38 "Deed.reads" = true)
  (k38:keepIn K (.ref g38)=true)
  (i38:isFn K (.ref g38)=true)
  (f39_0:findIn K (.ref C0) "writes" = some (some (.ref g39)))
  (f39_1:findIn K (.ref C1) "writes" = some (some (.ref g39)))
  (f39_2:findIn K (.ref C2) "writes" = some (some (.ref g39)))
  (f39_3:findIn K (.ref C3) "writes" = some (some (.ref g39)))
  (f39_4:findIn K (.ref C4) "writes" = some (some (.ref g39)))
  (f39_5:findIn K (.ref C5) "writes" = some (some (.ref g39)))
  (f39_6:findIn K (.ref C6) "writes" = some (some (.ref g39)))
  (f39_7:findIn K (.ref C7) "writes" = some (some (.ref g39)))
  (f39_8:findIn K (.ref C8) "writes" = some (some (.ref g39)))
  (f39_9:findIn K (.ref C9) "writes" = some (some (.ref g39)))
  (f39_10:findIn K (.ref C10) "writes" = some (some (.ref g39)))
  (l39:K.lookup g39=some ⟨oc39,od39,.func (fnOf "writes" "Deed.writes" (a0v a2e) (a0q a2e) (a0g a2e) .none kV39 dc39 pm39 an39 cd39 ct39),sl39⟩)
  (c39:codeIn K cd39 "Deed.writes" = true)
  (k39:keepIn K (.ref g39)=true)
  (i39:isFn K (.ref g39)=true)
  (a40:nsIn K mainGlobals "touches" = some (some (.ref g40)))
  (l40:K.lookup g40=some ⟨oc40,od40,.func (fnOf "touches" "touches" (a0v a4s) (a0q a4s) (a0g a4s) .none kV40 dc40 pm40 an40 cd40 ct40),sl40⟩)
  (c40:codeIn K cd40 "touches" = true)
  (k40:keepIn K (.ref g40)=true)
  (a41:nsIn K mainGlobals "broken_by" = some (some (.ref g41)))
  (l41:K.lookup g41=some ⟨oc41,od41,.func (fnOf "broken_by" "broken_by" (a0v a3f) (a0q a3f) (a0g a3f) .none kV41 dc41 pm41 an41 cd41 ct41),sl41⟩)
  (c41:codeIn K cd41 "broken_by" = true)
  (k41:keepIn K (.ref g41)=true)
  (a42:nsIn K mainGlobals "breaks" = some (some (.ref g42)))
  (l42:K.lookup g42=some ⟨oc42,od42,.func (fnOf "breaks" "breaks" (a0v a5B) (a0q a5B) (a0g a5B) .none kV42 dc42 pm42 an42 cd42 ct42),sl42⟩)
  (c42:codeIn K cd42 "breaks" = true)
  (k42:keepIn K (.ref g42)=true)
  (a43:nsIn K mainGlobals "law" = some (some (.ref g43)))
  (l43:K.lookup g43=some ⟨oc43,od43,.func (fnOf "law" "law" (a0v b0P) (a0q b0P) (a0g b0P) .none kV43 dc43 pm43 an43 cd43 ct43),sl43⟩)
  (c43:codeIn K cd43 "law" = true)
  (k43:keepIn K (.ref g43)=true)
  (na_check_10:findIn K (.ref C10) "check" = some none)
  (na_number_9:findIn K (.ref C9) "number" = some none)
  (na_numbers_5:findIn K (.ref C5) "numbers" = some none)
  (na_plan_0:findIn K (.ref C0) "plan" = some none)
  (na_plan_1:findIn K (.ref C1) "plan" = some none)
  (na_plan_2:findIn K (.ref C2) "plan" = some none)
  (na_plan_3:findIn K (.ref C3) "plan" = some none)
  (na_plan_4:findIn K (.ref C4) "plan" = some none)
  (na_plan_5:findIn K (.ref C5) "plan" = some none)
  (na_plan_6:findIn K (.ref C6) "plan" = some none)
  (na_plan_7:findIn K (.ref C7) "plan" = some none)
  (na_plan_8:findIn K (.ref C8) "plan" = some none)
  (na_plan_9:findIn K (.ref C9) "plan" = some none)
  (na_plan_10:findIn K (.ref C10) "plan" = some none)
  (na_size_9:findIn K (.ref C9) "size" = some none)
  (z_abs:nsIn K mainGlobals "abs" = some none)
  (z_all:nsIn K mainGlobals "all" = some none)
  (z_any:nsIn K mainGlobals "any" = some none)
  (z_bool:nsIn K mainGlobals "bool" = some none)
  (z_int:nsIn K mainGlobals "int" = some none)
  (z_isinstance:nsIn K mainGlobals "isinstance" = some none)
  (z_len:nsIn K mainGlobals "len" = some none)
  (z_list:nsIn K mainGlobals "list" = some none)
  (z_min:nsIn K mainGlobals "min" = some none)
  (z_range:nsIn K mainGlobals "range" = some none)
  (z_set:nsIn K mainGlobals "set" = some none)
  (z_sorted:nsIn K mainGlobals "sorted" = some none)
  (z_str:nsIn K mainGlobals "str" = some none)
  (z_sum:nsIn K mainGlobals "sum" = some none)
  (z_tuple:nsIn K mainGlobals "tuple" = some none)
  (z_zip:nsIn K mainGlobals "zip" = some none):
  (∃cls,Defs K mg cls)/\Blt mg:=by
 have e_Deed:clsF [("Deed",C0),("Promise",C1),("Comparing",C2),("Untouched",C3),("Still",C4),("Put",C5),("Copy",C6),("Tick",C7),("Handed",C8),("Grow",C9),("Anew",C10)] "Deed" = C0:=a4b
 have e_Promise:clsF [("Deed",C0),("Promise",C1),("Comparing",C2),("Untouched",C3),("Still",C4),("Put",C5),("Copy",C6),("Tick",C7),("Handed",C8),("Grow",C9),("Anew",C10)] "Promise" = C1:=(a0z (by decide) a4b)
 have e_Comparing:clsF [("Deed",C0),("Promise",C1),("Comparing",C2),("Untouched",C3),("Still",C4),("Put",C5),("Copy",C6),("Tick",C7),("Handed",C8),("Grow",C9),("Anew",C10)] "Comparing" = C2:=(a0z (by decide) (a0z (by decide) a4b))
 have e_Untouched:clsF [("Deed",C0),("Promise",C1),("Comparing",C2),("Untouched",C3),("Still",C4),("Put",C5),("Copy",C6),("Tick",C7),("Handed",C8),("Grow",C9),("Anew",C10)] "Untouched" = C3:=(a0z (by decide) (a0z (by decide) (a0z (by decide) a4b)))
 have e_Still:clsF [("Deed",C0),("Promise",C1),("Comparing",C2),("Untouched",C3),("Still",C4),("Put",C5),("Copy",C6),("Tick",C7),("Handed",C8),("Grow",C9),("Anew",C10)] "Still" = C4:=(a0z (by decide) (a0z (by decide) (a0z (by decide) (a0z (by decide) a4b))))
 have e_Put:clsF [("Deed",C0),("Promise",C1),("Comparing",C2),("Untouched",C3),("Still",C4),("Put",C5),("Copy",C6),("Tick",C7),("Handed",C8),("Grow",C9),("Anew",C10)] "Put" = C5:=(a0z (by decide) (a0z (by decide) (a0z (by decide) (a0z (by decide) (a0z (by decide) a4b)))))
 have e_Copy:clsF [("Deed",C0),("Promise",C1),("Comparing",C2),("Untouched",C3),("Still",C4),("Put",C5),("Copy",C6),("Tick",C7),("Handed",C8),("Grow",C9),("Anew",C10)] "Copy" = C6:=(a0z (by decide) (a0z (by decide) (a0z (by decide) (a0z (by decide) (a0z (by decide) (a0z (by decide) a4b))))))
 have e_Tick:clsF [("Deed",C0),("Promise",C1),("Comparing",C2),("Untouched",C3),("Still",C4),("Put",C5),("Copy",C6),("Tick",C7),("Handed",C8),("Grow",C9),("Anew",C10)] "Tick" = C7:=(a0z (by decide) (a0z (by decide) (a0z (by decide) (a0z (by decide) (a0z (by decide) (a0z (by decide) (a0z (by decide) a4b)))))))
 have e_Handed:clsF [("Deed",C0),("Promise",C1),("Comparing",C2),("Untouched",C3),("Still",C4),("Put",C5),("Copy",C6),("Tick",C7),("Handed",C8),("Grow",C9),("Anew",C10)] "Handed" = C8:=(a0z (by decide) (a0z (by decide) (a0z (by decide) (a0z (by decide) (a0z (by decide) (a0z (by decide) (a0z (by decide) (a0z (by decide) a4b))))))))
 have e_Grow:clsF [("Deed",C0),("Promise",C1),("Comparing",C2),("Untouched",C3),("Still",C4),("Put",C5),("Copy",C6),("Tick",C7),("Handed",C8),("Grow",C9),("Anew",C10)] "Grow" = C9:=(a0z (by decide) (a0z (by decide) (a0z (by decide) (a0z (by decide) (a0z (by decide) (a0z (by decide) (a0z (by decide) (a0z (by decide) (a0z (by decide) a4b)))))))))
 have e_Anew:clsF [("Deed",C0),("Promise",C1),("Comparing",C2),("Untouched",C3),("Still",C4),("Put",C5),("Copy",C6),("Tick",C7),("Handed",C8),("Grow",C9),("Anew",C10)] "Anew" = C10:=(a0z (by decide) (a0z (by decide) (a0z (by decide) (a0z (by decide) (a0z (by decide) (a0z (by decide) (a0z (by decide) (a0z (by decide) (a0z (by decide) (a0z (by decide) a4b))))))))))
 generalize clsF [("Deed",C0),("Promise",C1),("Comparing",C2),("Untouched",C3),("Still",C4),("Put",C5),("Copy",C6),("Tick",C7),("Handed",C8),("Grow",C9),("Anew",C10)]=cls at *
 exact ⟨⟨cls,⟨a07 X G a0 l0 c0 k0 fun _ _ _ _ _ _ us hl=>match us,hl with|[_,_],_=>rfl,
  a07 X G a1 l1 c1 k1 fun _ _ _ _ _ _ us hl=>match us,hl with|[_],_=>rfl,
  a07 X G a2 l2 c2 k2 fun _ _ _ _ _ _ us hl=>match us,hl with|[_,_],_=>rfl,
  a07 X G a3 l3 c3 k3 fun _ _ _ _ _ _ us hl=>match us,hl with|[_,_,_],_=>rfl,
  a07 X G a4 l4 c4 k4 fun _ _ _ _ _ _ us hl=>match us,hl with|[_,_,_],_=>rfl,
  a07 X G a5 l5 c5 k5 fun _ _ _ _ _ _ us hl=>match us,hl with|[_,_],_=>rfl,
  a07 X G a6 l6 c6 k6 fun _ _ _ _ _ _ us hl=>match us,hl with|[_,_],_=>rfl,
  a07 X G a7 l7 c7 k7 fun _ _ _ _ _ _ us hl=>match us,hl with|[_,_,_],_=>rfl,
  a07 X G a8 l8 c8 k8 fun _ _ _ _ _ _ us hl=>match us,hl with|[_,_],_=>rfl,
  a07 X G a9 l9 c9 k9 fun _ _ _ _ _ _ us hl=>match us,hl with|[_,_],_=>rfl,
  a07 X G a10 l10 c10 k10 fun _ _ _ _ _ _ us hl=>match us,hl with|[_,_],_=>rfl,
  a07 X G a11 l11 c11 k11 fun _ _ _ _ _ _ us hl=>match us,hl with|[_,_],_=>rfl,
  a07 X G a12 l12 c12 k12 fun _ _ _ _ _ _ us hl=>match us,hl with|[_,_],_=>rfl,
  a07 X G a13 l13 c13 k13 fun _ _ _ _ _ _ us hl=>match us,hl with|[_,_,_],_=>rfl,
  a07 X G a14 l14 c14 k14 fun _ _ _ _ _ _ us hl=>match us,hl with|[_,_],_=>rfl,
  a07 X G a15 l15 c15 k15 fun _ _ _ _ _ _ us hl=>match us,hl with|[_],_=>rfl,
  a07 X G a16 l16 c16 k16 fun _ _ _ _ _ _ us hl=>match us,hl with|[_,_,_,_],_=>rfl,
  a07 X G a17 l17 c17 k17 fun _ _ _ _ _ _ us hl=>match us,hl with|[_,_,_,_,_,_],_=>rfl,
  a07 X G a18 l18 c18 k18 fun _ _ _ _ _ _ us hl=>match us,hl with|[_,_,_,_],_=>rfl,
  a07 X G a19 l19 c19 k19 fun _ _ _ _ _ _ us hl=>match us,hl with|[_,_],_=>rfl,
  a07 X G a20 l20 c20 k20 fun _ _ _ _ _ _ us hl=>match us,hl with|[_,_,_],_=>rfl,
  a07 X G a21 l21 c21 k21 fun _ _ _ _ _ _ us hl=>match us,hl with|[_,_],_=>rfl,
  a07 X G a22 l22 c22 k22 fun _ _ _ _ _ _ us hl=>match us,hl with|[_,_],_=>rfl,
  a07 X G a23 l23 c23 k23 fun _ _ _ _ _ _ us hl=>match us,hl with|[_,_],_=>rfl,
  a07 X G a24 l24 c24 k24 fun _ _ _ _ _ _ us hl=>match us,hl with|[_,_],_=>rfl,
  laidC_mk X G a25 l25 c25 k25 fun _ _ _ _ _ _ us hl=>match us,hl with|[_,_],_=>rfl,
  a2Q X G e_Deed ca0 f26 l26 c26 k26 i26 m26 n26 o26 q26 r26 (fun _ _ _ _ _ _ us hl=>match us,hl with|[_,_],_=>rfl),
  a2Q X G e_Handed ca8 f27 l27 c27 k27 i27 m27 n27 o27 q27 r27 (fun _ _ _ _ _ _ us hl=>match us,hl with|[_,_,_],_=>rfl),
  a2Q X G e_Anew ca10 f28 l28 c28 k28 i28 m28 n28 o28 q28 r28 (fun _ _ _ _ _ _ us hl=>match us,hl with|[_,_,_,_],_=>rfl),
  a2Q X G e_Promise ca1 f29 l29 c29 k29 i29 m29 n29 o29 q29 r29 (fun _ _ _ _ _ _ us hl=>match us,hl with|[_,_],_=>rfl),
  a2Q X G e_Comparing ca2 f30 l30 c30 k30 i30 m30 n30 o30 q30 r30 (fun _ _ _ _ _ _ us hl=>match us,hl with|[_,_,_],_=>rfl),
  a2Q X G e_Copy ca6 f31 l31 c31 k31 i31 m31 n31 o31 q31 r31 (fun _ _ _ _ _ _ us hl=>match us,hl with|[_,_,_],_=>rfl),
  a2Q X G e_Grow ca9 f32 l32 c32 k32 i32 m32 n32 o32 q32 r32 (fun _ _ _ _ _ _ us hl=>match us,hl with|[_,_,_],_=>rfl),
  a2Q X G e_Put ca5 f33 l33 c33 k33 i33 m33 n33 o33 q33 r33 (fun _ _ _ _ _ _ us hl=>match us,hl with|[_,_,_],_=>rfl),
  a2Q X G e_Still ca4 f34 l34 c34 k34 i34 m34 n34 o34 q34 r34 (fun _ _ _ _ _ _ us hl=>match us,hl with|[_,_],_=>rfl),
  a2Q X G e_Tick ca7 f35 l35 c35 k35 i35 m35 n35 o35 q35 r35 (fun _ _ _ _ _ _ us hl=>match us,hl with|[_,_],_=>rfl),
  a2Q X G e_Untouched ca3 f36 l36 c36 k36 i36 m36 n36 o36 q36 r36 (fun _ _ _ _ _ _ us hl=>match us,hl with|[_],_=>rfl),
  a07 X G a37 l37 c37 k37 fun _ _ _ _ _ _ us hl=>match us,hl with|[_,_],_=>rfl,
  b15 l38 c38 k38 i38 (fun _ _ _ _ _ _ us hl=>match us,hl with|[_,_],_=>rfl) (all_cons (by rw [e_Deed];exact ⟨⟨cp0,ch0,co0,cs0⟩,f38_0⟩) (all_cons (by rw [e_Promise];exact ⟨⟨cp1,ch1,co1,cs1⟩,f38_1⟩) (all_cons (by rw [e_Comparing];exact ⟨⟨cp2,ch2,co2,cs2⟩,f38_2⟩) (all_cons (by rw [e_Untouched];exact ⟨⟨cp3,ch3,co3,cs3⟩,f38_3⟩) (all_cons (by rw [e_Still];exact ⟨⟨cp4,ch4,co4,cs4⟩,f38_4⟩) (all_cons (by rw [e_Put];exact ⟨⟨cp5,ch5,co5,cs5⟩,f38_5⟩) (all_cons (by rw [e_Copy];exact ⟨⟨cp6,ch6,co6,cs6⟩,f38_6⟩) (all_cons (by rw [e_Tick];exact ⟨⟨cp7,ch7,co7,cs7⟩,f38_7⟩) (all_cons (by rw [e_Handed];exact ⟨⟨cp8,ch8,co8,cs8⟩,f38_8⟩) (all_cons (by rw [e_Grow];exact ⟨⟨cp9,ch9,co9,cs9⟩,f38_9⟩) (all_cons (by rw [e_Anew];exact ⟨⟨cp10,ch10,co10,cs10⟩,f38_10⟩) a6c))))))))))),
  b15 l39 c39 k39 i39 (fun _ _ _ _ _ _ us hl=>match us,hl with|[_,_],_=>rfl) (all_cons (by rw [e_Deed];exact ⟨⟨cp0,ch0,co0,cs0⟩,f39_0⟩) (all_cons (by rw [e_Promise];exact ⟨⟨cp1,ch1,co1,cs1⟩,f39_1⟩) (all_cons (by rw [e_Comparing];exact ⟨⟨cp2,ch2,co2,cs2⟩,f39_2⟩) (all_cons (by rw [e_Untouched];exact ⟨⟨cp3,ch3,co3,cs3⟩,f39_3⟩) (all_cons (by rw [e_Still];exact ⟨⟨cp4,ch4,co4,cs4⟩,f39_4⟩) (all_cons (by rw [e_Put];exact ⟨⟨cp5,ch5,co5,cs5⟩,f39_5⟩) (all_cons (by rw [e_Copy];exact ⟨⟨cp6,ch6,co6,cs6⟩,f39_6⟩) (all_cons (by rw [e_Tick];exact ⟨⟨cp7,ch7,co7,cs7⟩,f39_7⟩) (all_cons (by rw [e_Handed];exact ⟨⟨cp8,ch8,co8,cs8⟩,f39_8⟩) (all_cons (by rw [e_Grow];exact ⟨⟨cp9,ch9,co9,cs9⟩,f39_9⟩) (all_cons (by rw [e_Anew];exact ⟨⟨cp10,ch10,co10,cs10⟩,f39_10⟩) a6c))))))))))),
  a07 X G a40 l40 c40 k40 fun _ _ _ _ _ _ us hl=>match us,hl with|[_,_,_],_=>rfl,
  a07 X G a41 l41 c41 k41 fun _ _ _ _ _ _ us hl=>match us,hl with|[_,_,_],_=>rfl,
  a07 X G a42 l42 c42 k42 fun _ _ _ _ _ _ us hl=>match us,hl with|[_,_],_=>rfl,
  a07 X G a43 l43 c43 k43 fun _ _ _ _ _ _ us hl=>match us,hl with|[_],_=>rfl,
  (all_cons (by rw [e_Anew];exact ⟨⟨cp10,ch10,co10,cs10⟩,na_check_10⟩) a6c),
  (all_cons (by rw [e_Grow];exact ⟨⟨cp9,ch9,co9,cs9⟩,na_number_9⟩) a6c),
  (all_cons (by rw [e_Put];exact ⟨⟨cp5,ch5,co5,cs5⟩,na_numbers_5⟩) a6c),
  (all_cons (by rw [e_Deed];exact ⟨⟨cp0,ch0,co0,cs0⟩,na_plan_0⟩) (all_cons (by rw [e_Promise];exact ⟨⟨cp1,ch1,co1,cs1⟩,na_plan_1⟩) (all_cons (by rw [e_Comparing];exact ⟨⟨cp2,ch2,co2,cs2⟩,na_plan_2⟩) (all_cons (by rw [e_Untouched];exact ⟨⟨cp3,ch3,co3,cs3⟩,na_plan_3⟩) (all_cons (by rw [e_Still];exact ⟨⟨cp4,ch4,co4,cs4⟩,na_plan_4⟩) (all_cons (by rw [e_Put];exact ⟨⟨cp5,ch5,co5,cs5⟩,na_plan_5⟩) (all_cons (by rw [e_Copy];exact ⟨⟨cp6,ch6,co6,cs6⟩,na_plan_6⟩) (all_cons (by rw [e_Tick];exact ⟨⟨cp7,ch7,co7,cs7⟩,na_plan_7⟩) (all_cons (by rw [e_Handed];exact ⟨⟨cp8,ch8,co8,cs8⟩,na_plan_8⟩) (all_cons (by rw [e_Grow];exact ⟨⟨cp9,ch9,co9,cs9⟩,na_plan_9⟩) (all_cons (by rw [e_Anew];exact ⟨⟨cp10,ch10,co10,cs10⟩,na_plan_10⟩) a6c))))))))))),
  (all_cons (by rw [e_Grow];exact ⟨⟨cp9,ch9,co9,cs9⟩,na_size_9⟩) a6c)⟩⟩,⟨mg_none_of X G z_abs,mg_none_of X G z_all,mg_none_of X G z_any,mg_none_of X G z_bool,mg_none_of X G z_int,mg_none_of X G z_isinstance,mg_none_of X G z_len,mg_none_of X G z_list,mg_none_of X G z_min,mg_none_of X G z_range,mg_none_of X G z_set,mg_none_of X G z_sorted,mg_none_of X G z_str,mg_none_of X G z_sum,mg_none_of X G z_tuple,mg_none_of X G z_zip⟩⟩
end Bell
def PySem.W.Fast.tw13920081608962983952:Unit:=()
def PySem.W.Fast.tw13848122120694653905:Unit:=()
def PySem.W.Fast.tw3343527802764033188:Unit:=()
def PySem.W.Fast.tw14340905849591758837:Unit:=()
def PySem.W.Fast.tw273768451699913925:Unit:=()
def PySem.W.Fast.tw1285672506323646906:Unit:=()
def PySem.W.Fast.tw12155259770019418972:Unit:=()
def PySem.W.Fast.tw14137623139258566800:Unit:=()
def PySem.W.Fast.tw4432293334701935807:Unit:=()
def PySem.W.Fast.tw4328047132434984445:Unit:=()
def PySem.W.Fast.tw18335710784008424938:Unit:=()
def PySem.W.Fast.tw789490635825593016:Unit:=()
def PySem.W.Fast.tw7773913666414870134:Unit:=()
def PySem.W.Fast.tw12922397430782512871:Unit:=()
def PySem.W.Fast.tw6326286554402744456:Unit:=()
def PySem.W.Fast.tw4880174243039707657:Unit:=()
def PySem.W.Fast.tw13502931895257706658:Unit:=()
def PySem.W.Fast.tw5138843034154321247:Unit:=()
def PySem.W.Fast.tw103417784837442594:Unit:=()
def PySem.W.Fast.tw5527353126852195493:Unit:=()
def PySem.W.Fast.tw18031657653405466285:Unit:=()
open PySem PySem.W PyProof.Rows
set_option maxRecDepth 100000 in
set_option maxHeartbeats 0 in
theorem PySem.Challenge.cw_bellnest_k62_states_break_holds : PySem.Challenge.rw_bellnest_k62_states_break.Holds := by
 w_on;o_law;k_head;(case hw=>w_witness2)
 k_fill
 refine Bell.walk (l:=PySem.Challenge.rw_bellnest_k62_states_break) Bell.law_true rfl (fun w=>by kernel_rfl) (fun w=>by kernel_rfl) rfl rfl rfl (fun w h Y=>PySem.W.km_in_of Y) ?F
 case F=>
  intro w mg h KX G
  refine' Bell.defs_mk KX G ?ca0 ?cp0 ?ch0 ?co0 ?cs0 ?ca1 ?cp1 ?ch1 ?co1 ?cs1 ?ca2 ?cp2 ?ch2 ?co2 ?cs2 ?ca3 ?cp3 ?ch3 ?co3 ?cs3 ?ca4 ?cp4 ?ch4 ?co4 ?cs4 ?ca5 ?cp5 ?ch5 ?co5 ?cs5 ?ca6 ?cp6 ?ch6 ?co6 ?cs6 ?ca7 ?cp7 ?ch7 ?co7 ?cs7 ?ca8 ?cp8 ?ch8 ?co8 ?cs8 ?ca9 ?cp9 ?ch9 ?co9 ?cs9 ?ca10 ?cp10 ?ch10 ?co10 ?cs10 ?a0 ?l0 ?c0 ?k0 ?a1 ?l1 ?c1 ?k1 ?a2 ?l2 ?c2 ?k2 ?a3 ?l3 ?c3 ?k3 ?a4 ?l4 ?c4 ?k4 ?a5 ?l5 ?c5 ?k5 ?a6 ?l6 ?c6 ?k6 ?a7 ?l7 ?c7 ?k7 ?a8 ?l8 ?c8 ?k8 ?a9 ?l9 ?c9 ?k9 ?a10 ?l10 ?c10 ?k10 ?a11 ?l11 ?c11 ?k11 ?a12 ?l12 ?c12 ?k12 ?a13 ?l13 ?c13 ?k13 ?a14 ?l14 ?c14 ?k14 ?a15 ?l15 ?c15 ?k15 ?a16 ?l16 ?c16 ?k16 ?a17 ?l17 ?c17 ?k17 ?a18 ?l18 ?c18 ?k18 ?a19 ?l19 ?c19 ?k19 ?a20 ?l20 ?c20 ?k20 ?a21 ?l21 ?c21 ?k21 ?a22 ?l22 ?c22 ?k22 ?a23 ?l23 ?c23 ?k23 ?a24 ?l24 ?c24 ?k24 ?a25 ?l25 ?c25 ?k25 ?f26 ?l26 ?c26 ?k26 ?i26 ?m26 ?n26 ?o26 ?q26 ?r26 ?f27 ?l27 ?c27 ?k27 ?i27 ?m27 ?n27 ?o27 ?q27 ?r27 ?f28 ?l28 ?c28 ?k28 ?i28 ?m28 ?n28 ?o28 ?q28 ?r28 ?f29 ?l29 ?c29 ?k29 ?i29 ?m29 ?n29 ?o29 ?q29 ?r29 ?f30 ?l30 ?c30 ?k30 ?i30 ?m30 ?n30 ?o30 ?q30 ?r30 ?f31 ?l31 ?c31 ?k31 ?i31 ?m31 ?n31 ?o31 ?q31 ?r31 ?f32 ?l32 ?c32 ?k32 ?i32 ?m32 ?n32 ?o32 ?q32 ?r32 ?f33 ?l33 ?c33 ?k33 ?i33 ?m33 ?n33 ?o33 ?q33 ?r33 ?f34 ?l34 ?c34 ?k34 ?i34 ?m34 ?n34 ?o34 ?q34 ?r34 ?f35 ?l35 ?c35 ?k35 ?i35 ?m35 ?n35 ?o35 ?q35 ?r35 ?f36 ?l36 ?c36 ?k36 ?i36 ?m36 ?n36 ?o36 ?q36 ?r36 ?a37 ?l37 ?c37 ?k37 ?f38_0 ?f38_1 ?f38_2 ?f38_3 ?f38_4 ?f38_5 ?f38_6 ?f38_7 ?f38_8 ?f38_9 ?f38_10 ?l38 ?c38 ?k38 ?i38 ?f39_0 ?f39_1 ?f39_2 ?f39_3 ?f39_4 ?f39_5 ?f39_6 ?f39_7 ?f39_8 ?f39_9 ?f39_10 ?l39 ?c39 ?k39 ?i39 ?a40 ?l40 ?c40 ?k40 ?a41 ?l41 ?c41 ?k41 ?a42 ?l42 ?c42 ?k42 ?a43 ?l43 ?c43 ?k43 ?na_check_10 ?na_number_9 ?na_numbers_5 ?na_plan_0 ?na_plan_1 ?na_plan_2 ?na_plan_3 ?na_plan_4 ?na_plan_5 ?na_plan_6 ?na_plan_7 ?na_plan_8 ?na_plan_9 ?na_plan_10 ?na_size_9 ?z_abs ?z_all ?z_any ?z_bool ?z_int ?z_isinstance ?z_len ?z_list ?z_min ?z_range ?z_set ?z_sorted ?z_str ?z_sum ?z_tuple ?z_zip
  (case ca0=>k_is);(case cp0=>k_is);(case ch0=>k_is);(case co0=>k_is);(case cs0=>k_is);(case ca1=>k_is)
  (case cp1=>k_is);(case ch1=>k_is);(case co1=>k_is);(case cs1=>k_is);(case ca2=>k_is);(case cp2=>k_is)
  (case ch2=>k_is);(case co2=>k_is);(case cs2=>k_is);(case ca3=>k_is);(case cp3=>k_is);(case ch3=>k_is)
  (case co3=>k_is);(case cs3=>k_is);(case ca4=>k_is);(case cp4=>k_is);(case ch4=>k_is);(case co4=>k_is)
  (case cs4=>k_is);(case ca5=>k_is);(case cp5=>k_is);(case ch5=>k_is);(case co5=>k_is);(case cs5=>k_is)
  (case ca6=>k_is);(case cp6=>k_is);(case ch6=>k_is);(case co6=>k_is);(case cs6=>k_is);(case ca7=>k_is)
  (case cp7=>k_is);(case ch7=>k_is);(case co7=>k_is);(case cs7=>k_is);(case ca8=>k_is);(case cp8=>k_is)
  (case ch8=>k_is);(case co8=>k_is);(case cs8=>k_is);(case ca9=>k_is);(case cp9=>k_is);(case ch9=>k_is)
  (case co9=>k_is);(case cs9=>k_is);(case ca10=>k_is);(case cp10=>k_is);(case ch10=>k_is);(case co10=>k_is)
  (case cs10=>k_is);(case a0=>k_is);(case l0=>k_is);(case c0=>k_is);(case k0=>k_is);(case a1=>k_is)
  (case l1=>k_is);(case c1=>k_is);(case k1=>k_is);(case a2=>k_is);(case l2=>k_is);(case c2=>k_is)
  (case k2=>k_is);(case a3=>k_is);(case l3=>k_is);(case c3=>k_is);(case k3=>k_is);(case a4=>k_is)
  (case l4=>k_is);(case c4=>k_is);(case k4=>k_is);(case a5=>k_is);(case l5=>k_is);(case c5=>k_is)
  (case k5=>k_is);(case a6=>k_is);(case l6=>k_is);(case c6=>k_is);(case k6=>k_is);(case a7=>k_is)
  (case l7=>k_is);(case c7=>k_is);(case k7=>k_is);(case a8=>k_is);(case l8=>k_is);(case c8=>k_is)
  (case k8=>k_is);(case a9=>k_is);(case l9=>k_is);(case c9=>k_is);(case k9=>k_is);(case a10=>k_is)
  (case l10=>k_is);(case c10=>k_is);(case k10=>k_is);(case a11=>k_is);(case l11=>k_is);(case c11=>k_is)
  (case k11=>k_is);(case a12=>k_is);(case l12=>k_is);(case c12=>k_is);(case k12=>k_is);(case a13=>k_is)
  (case l13=>k_is);(case c13=>k_is);(case k13=>k_is);(case a14=>k_is);(case l14=>k_is);(case c14=>k_is)
  (case k14=>k_is);(case a15=>k_is);(case l15=>k_is);(case c15=>k_is);(case k15=>k_is);(case a16=>k_is)
  (case l16=>k_is);(case c16=>k_is);(case k16=>k_is);(case a17=>k_is);(case l17=>k_is);(case c17=>k_is)
  (case k17=>k_is);(case a18=>k_is);(case l18=>k_is);(case c18=>k_is);(case k18=>k_is);(case a19=>k_is)
  (case l19=>k_is);(case c19=>k_is);(case k19=>k_is);(case a20=>k_is);(case l20=>k_is);(case c20=>k_is)
  (case k20=>k_is);(case a21=>k_is);(case l21=>k_is);(case c21=>k_is);(case k21=>k_is);(case a22=>k_is)
  (case l22=>k_is);(case c22=>k_is);(case k22=>k_is);(case a23=>k_is);(case l23=>k_is);(case c23=>k_is)
  (case k23=>k_is);(case a24=>k_is);(case l24=>k_is);(case c24=>k_is);(case k24=>k_is);(case a25=>k_is)
  (case l25=>k_is);(case c25=>k_is);(case k25=>k_is);(case f26=>k_is);(case l26=>k_is);(case c26=>k_is)
  (case k26=>k_is);(case i26=>k_is);(case m26=>k_is);(case n26=>k_is);(case o26=>k_is);(case q26=>k_is)
  (case r26=>k_is);(case f27=>k_is);(case l27=>k_is);(case c27=>k_is);(case k27=>k_is);(case i27=>k_is)
  (case m27=>k_is);(case n27=>k_is);(case o27=>k_is);(case q27=>k_is);(case r27=>k_is);(case f28=>k_is)
  (case l28=>k_is);(case c28=>k_is);(case k28=>k_is);(case i28=>k_is);(case m28=>k_is);(case n28=>k_is)
  (case o28=>k_is);(case q28=>k_is);(case r28=>k_is);(case f29=>k_is);(case l29=>k_is);(case c29=>k_is)
  (case k29=>k_is);(case i29=>k_is);(case m29=>k_is);(case n29=>k_is);(case o29=>k_is);(case q29=>k_is)
  (case r29=>k_is);(case f30=>k_is);(case l30=>k_is);(case c30=>k_is);(case k30=>k_is);(case i30=>k_is)
  (case m30=>k_is);(case n30=>k_is);(case o30=>k_is);(case q30=>k_is);(case r30=>k_is);(case f31=>k_is)
  (case l31=>k_is);(case c31=>k_is);(case k31=>k_is);(case i31=>k_is);(case m31=>k_is);(case n31=>k_is)
  (case o31=>k_is);(case q31=>k_is);(case r31=>k_is);(case f32=>k_is);(case l32=>k_is);(case c32=>k_is)
  (case k32=>k_is);(case i32=>k_is);(case m32=>k_is);(case n32=>k_is);(case o32=>k_is);(case q32=>k_is)
  (case r32=>k_is);(case f33=>k_is);(case l33=>k_is);(case c33=>k_is);(case k33=>k_is);(case i33=>k_is)
  (case m33=>k_is);(case n33=>k_is);(case o33=>k_is);(case q33=>k_is);(case r33=>k_is);(case f34=>k_is)
  (case l34=>k_is);(case c34=>k_is);(case k34=>k_is);(case i34=>k_is);(case m34=>k_is);(case n34=>k_is)
  (case o34=>k_is);(case q34=>k_is);(case r34=>k_is);(case f35=>k_is);(case l35=>k_is);(case c35=>k_is)
  (case k35=>k_is);(case i35=>k_is);(case m35=>k_is);(case n35=>k_is);(case o35=>k_is);(case q35=>k_is)
  (case r35=>k_is);(case f36=>k_is);(case l36=>k_is);(case c36=>k_is);(case k36=>k_is);(case i36=>k_is)
  (case m36=>k_is);(case n36=>k_is);(case o36=>k_is);(case q36=>k_is);(case r36=>k_is);(case a37=>k_is)
  (case l37=>k_is);(case c37=>k_is);(case k37=>k_is);(case f38_0=>k_is);(case f38_1=>k_is);(case f38_2=>k_is)
  (case f38_3=>k_is);(case f38_4=>k_is);(case f38_5=>k_is);(case f38_6=>k_is);(case f38_7=>k_is);(case f38_8=>k_is)
  (case f38_9=>k_is);(case f38_10=>k_is);(case l38=>k_is);(case c38=>k_is);(case k38=>k_is);(case i38=>k_is)
  (case f39_0=>k_is);(case f39_1=>k_is);(case f39_2=>k_is);(case f39_3=>k_is);(case f39_4=>k_is);(case f39_5=>k_is)
  (case f39_6=>k_is);(case f39_7=>k_is);(case f39_8=>k_is);(case f39_9=>k_is);(case f39_10=>k_is);(case l39=>k_is)
  (case c39=>k_is);(case k39=>k_is);(case i39=>k_is);(case a40=>k_is);(case l40=>k_is);(case c40=>k_is)
  (case k40=>k_is);(case a41=>k_is);(case l41=>k_is);(case c41=>k_is);(case k41=>k_is);(case a42=>k_is)
  (case l42=>k_is);(case c42=>k_is);(case k42=>k_is);(case a43=>k_is);(case l43=>k_is);(case c43=>k_is)
  (case k43=>k_is);(case na_check_10=>k_is);(case na_number_9=>k_is);(case na_numbers_5=>k_is);(case na_plan_0=>k_is);(case na_plan_1=>k_is)
  (case na_plan_2=>k_is);(case na_plan_3=>k_is);(case na_plan_4=>k_is);(case na_plan_5=>k_is);(case na_plan_6=>k_is);(case na_plan_7=>k_is)
  (case na_plan_8=>k_is);(case na_plan_9=>k_is);(case na_plan_10=>k_is);(case na_size_9=>k_is);(case z_abs=>k_is);(case z_all=>k_is)
  (case z_any=>k_is);(case z_bool=>k_is);(case z_int=>k_is);(case z_isinstance=>k_is);(case z_len=>k_is);(case z_list=>k_is)
  (case z_min=>k_is);(case z_range=>k_is);(case z_set=>k_is);(case z_sorted=>k_is);(case z_str=>k_is);(case z_sum=>k_is)
  (case z_tuple=>k_is);(case z_zip=>k_is)
