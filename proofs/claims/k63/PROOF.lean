import PyProof.Rows.All
import Wide.All
import OpenK.AllK
import Wide.FinOn
import Lean
import PyProof.EqAt
import PyProof.EqKinds
import PyProof.TupleCall
import PySem.SetOps
import PySem.Challenge.RW_bellnest_k63_table_without_enterings
noncomputable section
set_option Elab.async false
set_option linter.all false
set_option maxRecDepth 100000
open PySem.W (Frag KdlSrc callWith_K codeIn emptyDict findCls findIn fnOf handedIn hasDictIn instObj isFn keepIn kia_one kitOne kitx_dict kitx_list lookIn makesIn methodCall_KW methodObj mg_none_of mg_of mroIn nsIn plainGet plainGet_of plainOver readsIn specialIn takerIn takesIn)
open List (all_eq_true any_cons append_assoc append_nil cons_append find?_cons flatten_cons foldl_cons getD_eq_getElem?_getD getElem?_append_left getElem?_append_right getElem?_cons_succ getElem?_cons_zero getElem?_eq_getElem getElem?_eq_none getElem?_map getElem?_range getElem?_replicate getElem?_set_ne getElem?_set_self getElem_mem length_append length_cons length_drop length_map length_nil length_range length_replicate length_set length_singleton length_take lookup_cons map_append map_cons map_map map_nil mem_append mem_append_right mem_cons mem_cons_of_mem mem_cons_self mem_filter mem_map mem_of_getElem? mem_range mem_singleton nil_append nodup_cons of_mem_zip pairwise_cons replicate replicate_succ reverse_cons set_cons_succ set_cons_zero size_toArray zip_cons_cons)
open PySem.Heap (get?_push_of_some get?_push_size get?_update_other get?_update_self lt_size size_push)
open Nat (le_of_eq le_of_lt le_refl le_succ le_trans lt_irrefl lt_of_lt_of_le lt_succ_of_lt lt_succ_self lt_trans ne_of_gt ne_of_lt reduceAdd reduceLeDiff reduceSub sub_self zero_le)
open Array (getElem?_toList length_toList)
open Bool (and_eq_true false_eq_true)
open Int (emod_lt_of_pos emod_nonneg reduceEq toNat_natCast)
namespace L2
open PySem PySem.Spec PyProof.Rows
abbrev Key:=Sum Int Str
def keyIs:Key->Value->Bool
 | .inl k,v=>Value.isInt k v
 | .inr x,v=>Value.isStrOf x v
def keyH (w:World):Key->Int
 | .inl k=>hashInt k
 | .inr x=>hashStr w x
theorem a1H:∀{k:Key} {v:Value},keyIs k v=true->(∃i t,k=Sum.inl i/\v=Value.int i t)\/(∃x t,k=Sum.inr x/\v=Value.str x t)
 | .inl i,v,h=>by
  obtain ⟨t,e⟩:=Value.isInt_shape (k:=i) (v:=v) h
  exact .inl ⟨i,t,rfl,e⟩
 | .inr x,v,h=>by
  obtain ⟨t,e⟩:=Value.isStrOf_shape (x:=x) (v:=v) h
  exact .inr ⟨x,t,rfl,e⟩
theorem key_ll (a b:Int):decide ((Sum.inl a:Key)=Sum.inl b)=(a == b):=by
 by_cases e:a=b
 ·subst e;simp
 ·have h:¬(Sum.inl a:Key)=Sum.inl b:=fun q=>e (Sum.inl.inj q)
  rw [decide_eq_false h]
  exact (beq_eq_false_iff_ne.mpr e).symm
theorem key_rr (a b:Str):decide ((Sum.inr a:Key)=Sum.inr b)=decide (a=b):=by
 by_cases e:a=b
 ·subst e;simp
 ·have h:¬(Sum.inr a:Key)=Sum.inr b:=fun q=>e (Sum.inr.inj q)
  rw [decide_eq_false h,decide_eq_false e]
theorem key_lr (a:Int) (b:Str):decide ((Sum.inl a:Key)=Sum.inr b)=false:=decide_eq_false (fun q=>nomatch q)
theorem key_rl (a:Str) (b:Int):decide ((Sum.inr a:Key)=Sum.inl b)=false:=decide_eq_false (fun q=>nomatch q)
def b6G (prog:Program) (w:World):PySem.KeyKind prog w Key where
 is:=keyIs
 hash:=keyH w
 inj:=fun v a b ha hb=>by
  rcases a1H ha with ⟨i,t,rfl,rfl⟩|⟨x,t,rfl,rfl⟩
  ·rcases a1H hb with ⟨j,u,rfl,e⟩|⟨y,u,rfl,e⟩
   ·injection e with e1 _;rw [e1]
   ·exact nomatch e
  ·rcases a1H hb with ⟨j,u,rfl,e⟩|⟨y,u,rfl,e⟩
   ·exact nomatch e
   ·injection e with e1 _;rw [e1]
 byValue:=fun k v h=>by
  rcases a1H h with ⟨i,t,rfl,rfl⟩|⟨x,t,rfl,rfl⟩ <;> rfl
 pyHash:=fun hv h=>by
  rcases a1H hv with ⟨i,t,rfl,rfl⟩|⟨x,t,rfl,rfl⟩
  ·exact wpAny_pyHash_int h
  ·exact wpAny_pyHash_str h
 eqBool:=fun hu hv h=>by
  rcases a1H hu with ⟨i,t,rfl,rfl⟩|⟨x,t,rfl,rfl⟩
  ·rcases a1H hv with ⟨j,u,rfl,rfl⟩|⟨y,u,rfl,rfl⟩
   ·rw [key_ll] at h;exact wpAny_eqBool_int h
   ·rw [key_lr] at h;exact SeqAt.EqAt.int_str i t y u _ _ _ _ h
  ·rcases a1H hv with ⟨j,u,rfl,rfl⟩|⟨y,u,rfl,rfl⟩
   ·rw [key_rl] at h;exact SeqAt.EqAt.str_int x t j u _ _ _ _ h
   ·rw [key_rr] at h;exact wpAny_eqBool_str h
 «strs»:=fun k x t v h=>by
  rcases a1H h with ⟨i,u,rfl,e⟩|⟨y,u,rfl,e⟩
  ·exact nomatch e
  ·injection e with e1 _
   subst e1
   cases v <;> rfl
inductive V where
 | non|bl (b:Bool)|int (i:Int)|str (x:Str)|byt (b:Array UInt8)|flt (b:UInt64)|ref (a:Addr)|ty (n:String)
 deriving DecidableEq
def RelV:V->Value->Prop
 | .non,u=>u=Value.none
 | .bl b,u=>u=Value.bool b
 | .int i,u=>∃t,u=Value.int i t
 | .str x,u=>∃t,u=Value.str x t
 | .byt b,u=>∃t,u=Value.bytes b t
 | .flt b,u=>∃t,u=Value.float b t
 | .ref a,u=>u=Value.ref a
 | .ty n,u=>u=Value.type n
abbrev Vals:List V->List Value->Prop:=Paired RelV
theorem Vals.length {xs:List V} {us:List Value} (r:Vals xs us):xs.length=us.length:=Paired.length r
theorem Vals.get:∀{xs:List V} {us:List Value} {i:Nat} {x:V},Vals xs us->xs[i]?=some x->∃u,us[i]?=some u/\RelV x u
 | _,_,_,_,.nil,e=>by simp at e
 | _,_,0,_,.cons r _,e=>by simp at e;subst e;exact ⟨_,rfl,r⟩
 | _,_,i+1,x,.cons _ t,e=>by
  obtain ⟨u,h1,h2⟩:=Vals.get (i:=i) (x:=x) t (by simpa using e)
  exact ⟨u,by simpa using h1,h2⟩
theorem Vals.set {x:V} {u:Value} (r:RelV x u):∀{xs:List V} {us:List Value} (i:Nat),Vals xs us->Vals (xs.set i x) (us.set i u)
 | _,_,_,.nil=>.nil
 | _,_,0,.cons _ t=>.cons r t
 | _,_,i+1,.cons q t=>.cons q (Vals.set r i t)
theorem Vals.append:∀{xs ys:List V} {us ws:List Value},Vals xs us->Vals ys ws->Vals (xs++ys) (us++ws)
 | _,_,_,_,.nil,s=>s
 | _,_,_,_,.cons r t,s=>.cons r (Vals.append t s)
theorem Vals.take:∀{xs:List V} {us:List Value} (n:Nat),Vals xs us->Vals (xs.take n) (us.take n)
 | _,_,0,_=>.nil
 | _,_,_+1,.nil=>.nil
 | _,_,n+1,.cons r t=>.cons r (Vals.take n t)
theorem Vals.drop:∀{xs:List V} {us:List Value} (n:Nat),Vals xs us->Vals (xs.drop n) (us.drop n)
 | _,_,0,r=>r
 | _,_,_+1,.nil=>.nil
 | _,_,n+1,.cons _ t=>Vals.drop n t
theorem Vals.none_of:∀{xs:List V} {us:List Value} {i:Nat},Vals xs us->xs[i]?=none->us[i]?=none:=fun {xs us i} r e=>by
 have h1:=r.length
 have h2:xs.length<=i:=List.getElem?_eq_none_iff.mp e
 exact List.getElem?_eq_none_iff.mpr (by omega)
def RelO:Option V->Option Value->Prop
 | some v,some u=>RelV v u
 | none,none=>True
 | _,_=>False
def KV {κ:Type}:List (κ×V)->List (κ×Value)->Prop:=Paired fun (p:κ×V) (q:κ×Value)=>p.1=q.1/\RelV p.2 q.2
def kV:Key->V
 | .inl i=>.int i
 | .inr x=>.str x
inductive HO where
 | lst (xs:List V)
 | tup (xs:List V)
 | dK (kvs:List (Key×V))|dT (kvs:List (List Key×V))
 | set (S:Int->Bool) (n:Nat)
 | ins (C dx:Addr) (fs:List (Str×V))
 | own (x:Addr)
 | xd (fs:List (Str×V))
 | met (f x:Addr)
 | rng (lo hi:Int)
 | frz (o:Obj) (u:HO)
 | tbl (ps:Array Value)
 | tab (good:Pos->Option Str)
 | fnc (c:Addr) (q:Str)
 | ext (φ:Heap->Prop)
abbrev Hp:=Addr->Option HO
def upd (H:Hp) (a:Addr) (o:HO):Hp:=fun b=>if b=a then some o else H b
theorem a0O {H:Hp} {a:Addr} {o:HO}:upd H a o a=some o:=by unfold upd;rw [if_pos rfl]
theorem a0J {H:Hp} {a b:Addr} {o:HO} (h:b≠a):upd H a o b=H b:=by unfold upd;rw [if_neg h]
theorem a0C {H:Hp} {a b:Addr} {o:HO} (h:H a=some o) (h':H b=none):a≠b:=by
 intro e;subst e;rw [h] at h';cases h'
section
variable (P:Program) (w:World)
def a3n (H:Hp) (h:Heap) (a:Addr):HO->Prop
 | .lst xs=>xs.length<=sizeLine/\∃(its:List Value) (n:Nat),Vals xs its/\h.get? a=some { cls:=.type "list",data:=.seq its.toArray n }
 | .tup xs=>xs.length<=sizeLine/\∃its:List Value,Vals xs its/\IsTup h a its.toArray
 | .dK kvs=>kvs.length<=sizeLine/\(a == sysModules)=false/\∃vs,KV kvs vs/\h.DictOf (b6G P w) a vs
 | .dT kvs=>kvs.length<=sizeLine/\(a == sysModules)=false/\∃xs:List (List Key×Addr×Value),
   Paired (fun (p:List Key×V) (q:List Key×Addr×Value)=>p.1=q.1/\H q.2.1=some (.tup (p.1.map kV))/\RelV p.2 q.2.2) kvs xs/\
   ∃o es ep,h.get? a=some o/\o.ExactDict/\o.data=.dict es ep/\es.toList=xs.map (entryOfKey (tupleKind (b6G P w)))/\(xs.map (·.1)).Nodup
 | .set S n=>h.SetOf (intKind P w) a S n
 | .ins C dx fs=>H dx=some (.own a)/\fs.length<=1000/\dx≠a/\h.get? a=some (instObj C dx)/\
   ∃mA,h.Ns1 dx mA/\(∀f,RelO (fs.lookup f) (mA f))/\PySem.Within mA (fs.map (·.1))
 | .own _=>∃o,h.get? a=some o
 | .xd fs=>∃mA,h.Ns1 a mA/\∀f,RelO (fs.lookup f) (mA f)
 | .rng lo hi=>∃t u v,h.get? a=some { cls:=.type "range",data:=.fields #[.int lo t,.int hi u,.int 1 v] }
 | .frz o u=>h.get? a=some o/\a3n H h a u
 | .tbl ps=>h.get? a=some { cls:=.none,data:=.fields ps }
 | .tab good=>∃ps:Array Value,h.get? a=some { cls:=.none,data:=.fields ps }/\TriplesOk ps.toList/\∀p cv,(good p).isSome=true->codeAmong p ps.toList=some cv->∃(c:Addr) (oc:Obj) (q:Str) (vs:Array Value) (t:Tok),cv=.ref c/\H c=some (.frz oc (.own c))/\good p=some q/\oc.data=.fields vs/\vs[1]?=some (.str q t)
 | .fnc c q=>(∃o,h.get? a=some o)/\∃(oc:Obj) (vs:Array Value) (t:Tok),H c=some (.frz oc (.own c))/\oc.data=.fields vs/\vs[1]?=some (.str q t)
 | .met f x=>h.get? a=some (methodObj (.ref f) (.ref x))
 | .ext φ=>φ h/\(∃o,h.get? a=some o)/\∀h1 h2:Heap,φ h1->(∀o,h1.get? a=some o->h2.get? a=some o)->φ h2
def HOk (H:Hp) (h:Heap):Prop:=∀a o,H a=some o->a3n P w H h a o
end
section
variable {P:Program} {w:World} {H H':Hp} {h h':Heap} {a:Addr} {o:HO}
theorem a3n.lt (x:a3n P w H h a o):a<h.objs.size:=by
 cases o with
 | lst xs=>obtain ⟨_,_,_,_,e⟩:=x;exact lt_size e
 | tup xs=>obtain ⟨_,_,_,p⟩:=x;exact p.lt
 | dK kvs=>obtain ⟨_,_,_,_,o,_,_,e,_⟩:=x;exact lt_size e
 | dT kvs=>obtain ⟨_,_,_,_,o,_,_,e,_⟩:=x;exact lt_size e
 | set S n=>obtain ⟨o,_,_,_,e,_⟩:=x;exact lt_size e
 | ins C dx fs=>obtain ⟨_,_,_,e,_⟩:=x;exact lt_size e
 | own y=>obtain ⟨_,e⟩:=x;exact lt_size e
 | xd fs=>obtain ⟨_,⟨_,_,_,e,_⟩,_⟩:=x;exact lt_size e
 | rng lo hi=>obtain ⟨_,_,_,e⟩:=x;exact lt_size e
 | frz ob u=>obtain ⟨e,_⟩:=x;exact lt_size e
 | tbl ps=>exact lt_size (show h.get? a=some _ from x)
 | tab good=>obtain ⟨_,e,_⟩:=x;exact lt_size e
 | fnc c q=>obtain ⟨⟨_,e⟩,_⟩:=x;exact lt_size e
 | met f y=>exact lt_size (show h.get? a=some _ from x)
 | ext φ=>obtain ⟨_,⟨_,e⟩,_⟩:=x;exact lt_size e
theorem Paired.mapP {α β:Type} {F G:α->β->Prop}:∀{l₁:List α} {l₂:List β},Paired F l₁ l₂->(∀a b,F a b->G a b)->Paired G l₁ l₂
 | _,_,.nil,_=>.nil
 | _,_,.cons r t,f=>.cons (f _ _ r) (Paired.mapP t f)
theorem a3n.stay (x:a3n P w H h a o) (k:∀b u,(b=a\/H b=some (.own a))->h.get? b=some u->h'.get? b=some u)
  (ho:∀b,H b=some (.own a)->H' b=some (.own a)) (ht:∀b xs,H b=some (.tup xs)->H' b=some (.tup xs)) (hf:∀b ob y,H b=some (.frz ob (.own y))->H' b=some (.frz ob (.own y))):a3n P w H' h' a o:=by
 induction o with
 | lst xs=>obtain ⟨z,its,n,r,e⟩:=x;exact ⟨z,its,n,r,k _ _ (.inl rfl) e⟩
 | tup xs=>obtain ⟨z,its,r,ob,e,c⟩:=x;exact ⟨z,its,r,ob,k _ _ (.inl rfl) e,c⟩
 | dK kvs=>obtain ⟨z,y,vs,r,ob,es,ep,e,c⟩:=x;exact ⟨z,y,vs,r,ob,es,ep,k _ _ (.inl rfl) e,c⟩
 | dT kvs=>
  obtain ⟨z,y,xs,r,ob,es,ep,e,c⟩:=x
  exact ⟨z,y,xs,Paired.mapP r fun p q z=>⟨z.1,ht _ _ z.2.1,z.2.2⟩,ob,es,ep,k _ _ (.inl rfl) e,c⟩
 | set S n=>obtain ⟨ob,es,ep,t,e,c⟩:=x;exact ⟨ob,es,ep,t,k _ _ (.inl rfl) e,c⟩
 | ins C dx fs=>
  obtain ⟨d,z,ne,e,mA,⟨od,es,ep,e2,c⟩,r⟩:=x
  exact ⟨ho _ d,z,ne,k _ _ (.inl rfl) e,mA,⟨od,es,ep,k _ _ (.inr d) e2,c⟩,r⟩
 | own y=>obtain ⟨ob,e⟩:=x;exact ⟨ob,k _ _ (.inl rfl) e⟩
 | xd fs=>obtain ⟨mA,⟨od,es,ep,e,c⟩,r⟩:=x;exact ⟨mA,⟨od,es,ep,k _ _ (.inl rfl) e,c⟩,r⟩
 | rng lo hi=>obtain ⟨t,u,v,e⟩:=x;exact ⟨t,u,v,k _ _ (.inl rfl) e⟩
 | frz ob u ih=>obtain ⟨e,q⟩:=x;exact ⟨k _ _ (.inl rfl) e,ih q⟩
 | tbl ps=>
  have e:h.get? a=some { cls:=.none,data:=.fields ps }:=x
  show h'.get? a=some { cls:=.none,data:=.fields ps }
  exact k a _ (.inl rfl) e
 | tab good=>
  obtain ⟨ps,e,tr,q⟩:=x
  refine ⟨ps,k a _ (.inl rfl) e,tr,fun p cv hg hc=>?_⟩
  obtain ⟨c,oc,qq,vs,t,e1,e2,e3⟩:=q p cv hg hc
  exact ⟨c,oc,qq,vs,t,e1,hf _ _ _ e2,e3⟩
 | fnc c q=>
  obtain ⟨⟨ob,e⟩,oc,vs,t,e1,e2⟩:=x
  exact ⟨⟨ob,k _ _ (.inl rfl) e⟩,oc,vs,t,hf _ _ _ e1,e2⟩
 | met f y=>
  have e:h.get? a=some (methodObj (.ref f) (.ref y)):=x
  show h'.get? a=some (methodObj (.ref f) (.ref y))
  exact k a _ (.inl rfl) e
 | ext φ=>obtain ⟨p,⟨o,e⟩,st⟩:=x;exact ⟨st _ _ p fun o q=>k _ _ (.inl rfl) q,⟨o,k _ _ (.inl rfl) e⟩,st⟩
theorem HOk.lt (x:HOk P w H h) (e:H a=some o):a<h.objs.size:=(x a o e).lt
theorem HOk.fresh (x:HOk P w H h) (e:h.objs.size<=a):H a=none:=by
 cases q:H a with
 | none=>rfl
 | some u=>exact absurd (lt_of_lt_of_le (x.lt q) e) (lt_irrefl _)
theorem HOk.kept (x:HOk P w H h) (k:∀b u,h.get? b=some u->h'.get? b=some u):HOk P w H h':=fun a o e=>
 (x a o e).stay (fun b u _ q=>k b u q) (fun _ q=>q) (fun _ _ q=>q) fun _ _ _ q=>q
theorem HOk.laid (x:HOk P w H h) (k:∀b u,h.get? b=some u->h'.get? b=some u) (hp:h.objs.size<=a) (new:a3n P w (upd H a o) h' a o):HOk P w (upd H a o) h':=fun b u e=>by
 have hn:=x.fresh hp
 by_cases hb:b=a
 ·subst hb;rw [a0O] at e;cases e;exact new
 ·rw [a0J hb] at e
  exact (x b u e).stay (fun c v _ q=>k c v q) (fun c q=>by rw [a0J (a0C q hn)];exact q) (fun c xs q=>by rw [a0J (a0C q hn)];exact q) fun c ob u q=>by rw [a0J (a0C q hn)];exact q
end
def Rd (H:Hp) (a:Addr) (u:HO):Prop:=H a=some u\/∃o,H a=some (.frz o u)
theorem Rd.of {H:Hp} {a:Addr} {u:HO} (h:H a=some u):Rd H a u:=.inl h
theorem Rd.ok {P:Program} {w:World} {H:Hp} {h:Heap} {a:Addr} {u:HO} (r:Rd H a u) (x:HOk P w H h):a3n P w H h a u:=by
 rcases r with r|⟨o,r⟩
 ·exact x a u r
 ·obtain ⟨_,q⟩:=x a _ r
  exact q
def Mut:Option HO->Prop
 | some (.lst _)=>True
 | some (.dK _)=>True
 | some (.dT _)=>True
 | some (.set _ _)=>True
 | some (.ins _ _ _)=>True
 | some (.ext _)=>True
 | _=>False
section
variable {P:Program} {w:World} {H:Hp} {h h':Heap} {x e:Addr} {o':HO}
theorem HOk.write (ok:HOk P w H h) (mu:Mut (H x)) (he:e=x\/H e=some (.own x)) (k:∀b u,b≠e->h.get? b=some u->h'.get? b=some u) (heo:∃u,h'.get? e=some u)
  (new:a3n P w (upd H x o') h' x o'):HOk P w (upd H x o') h':=fun b u q=>by
 have nown:∀c y,H c=some (.own y)->c≠x:=fun c y r z=>by subst z;rw [r] at mu;exact mu
 have ntup:∀c xs,H c=some (.tup xs)->c≠x:=fun c xs r z=>by subst z;rw [r] at mu;exact mu
 have nfrz:∀c ob u,H c=some (.frz ob u)->c≠x:=fun c ob u r z=>by subst z;rw [r] at mu;exact mu
 by_cases hb:b=x
 ·subst hb;rw [a0O] at q;cases q;exact new
 ·rw [a0J hb] at q
  by_cases hbe:b=e
  ·have q':H b=some (.own x):=by
    rcases he with z|z
    ·exact absurd (hbe.trans z) hb
    ·rw [hbe];exact z
   rw [q] at q';cases q'
   obtain ⟨v,hv⟩:=heo
   exact ⟨v,by rw [hbe];exact hv⟩
  ·refine (ok b u q).stay (fun c v hc r=>k c v ?_ r) (fun c r=>by rw [a0J (nown c b r)];exact r) (fun c xs r=>by rw [a0J (ntup c xs r)];exact r) fun c ob v r=>by rw [a0J (nfrz c ob _ r)];exact r
   rcases hc with rfl|hc
   ·exact hbe
   ·rintro rfl
    rcases he with z|z
    ·exact nown c b hc z
    ·rw [hc] at z;cases z;exact hb rfl
end
structure Un (fs ex:List Addr) (H H':Hp) (h h':Heap):Prop where
 keep:∀b o,h.get? b=some o->H b=none->b∉fs->b∉ex->h'.get? b=some o
 slot:∀b o,h.get? b=some o->H b=none->b∈fs->b∉ex->∃sl,h'.get? b=some { o with slots:=sl }
 free:∀b o,h.get? b=some o->H b=none->b∉ex->H' b=none
 there:∀b o,h.get? b=some o->b∉ex->∃o',h'.get? b=some o'
 tups:∀b xs,H b=some (.tup xs)->H' b=some (.tup xs)
 frzs:∀b o u,H b=some (.frz o u)->H' b=some (.frz o u)
 tbls:∀b ps,H b=some (.tbl ps)->∃more,H' b=some (.tbl (ps++more))
section
variable {fs fs' ex ex':List Addr} {H H1 H2:Hp} {h h1 h2 h':Heap} {a x e:Addr} {o:HO}
theorem Un.any (u:Un fs ex H H1 h h1) {b:Addr} {ob:Obj} (q:h.get? b=some ob) (n:H b=none) (hx:b∉ex):∃sl,h1.get? b=some { ob with slots:=sl }:=by
 by_cases hb:b∈fs
 ·exact u.slot b ob q n hb hx
 ·exact ⟨ob.slots,u.keep b ob q n hb hx⟩
theorem Un.trans (a:Un fs ex H H1 h h1) (b:Un fs ex H1 H2 h1 h2):Un fs ex H H2 h h2 where
 keep:=fun c ob q n hc hx=>b.keep c ob (a.keep c ob q n hc hx) (a.free c ob q n hx) hc hx
 slot:=fun c ob q n hc hx=>by
  obtain ⟨sl,e1⟩:=a.slot c ob q n hc hx
  obtain ⟨sl',e2⟩:=b.slot c _ e1 (a.free c ob q n hx) hc hx
  exact ⟨sl',e2⟩
 free:=fun c ob q n hx=>by
  obtain ⟨o',e1⟩:=a.there c ob q hx
  exact b.free c o' e1 (a.free c ob q n hx) hx
 there:=fun c ob q hx=>by
  obtain ⟨o',e1⟩:=a.there c ob q hx
  exact b.there c o' e1 hx
 tups:=fun c xs q=>b.tups c xs (a.tups c xs q)
 frzs:=fun c ob xs q=>b.frzs c ob xs (a.frzs c ob xs q)
 tbls:=fun c ps q=>by
  obtain ⟨m1,e1⟩:=a.tbls c ps q
  obtain ⟨m2,e2⟩:=b.tbls c _ e1
  exact ⟨m1++m2,by rw [e2,Array.append_assoc]⟩
theorem Un.kept (k:∀b u,h.get? b=some u->h'.get? b=some u):Un fs ex H H h h':=
 ⟨fun b ob q _ _ _=>k b ob q,fun b ob q _ _ _=>⟨ob.slots,k b ob q⟩,fun _ _ _ n _=>n,fun b ob q _=>⟨ob,k b ob q⟩,fun _ _ q=>q,fun _ _ _ q=>q,fun _ ps q=>⟨#[],by rw [q];simp⟩⟩
theorem Un.refl:Un fs ex H H h h:=Un.kept fun _ _ q=>q
theorem Un.laid (k:∀b u,h.get? b=some u->h'.get? b=some u) (hp:h.objs.size<=a) (hn:H a=none):Un fs ex H (upd H a o) h h' where
 keep:=fun b u q _ _ _=>k b u q
 slot:=fun b u q _ _ _=>⟨u.slots,k b u q⟩
 free:=fun b u q n _=>by rw [a0J (ne_of_lt (lt_of_lt_of_le (lt_size q) hp))];exact n
 there:=fun b u q _=>⟨u,k b u q⟩
 tups:=fun b xs q=>by rw [a0J (a0C q hn)];exact q
 frzs:=fun b u xs q=>by rw [a0J (a0C q hn)];exact q
 tbls:=fun b ps q=>⟨#[],by rw [a0J (a0C q hn),q];simp⟩
theorem Un.write (mu:Mut (H x)) (he:e=x\/H e=some (.own x)) (k:∀b u,b≠e->h.get? b=some u->h'.get? b=some u) (heo:∃u,h'.get? e=some u):Un fs ex H (upd H x o) h h':=by
 have hx:∀b,H b=none->b≠x:=fun b n z=>by subst z;rw [n] at mu;exact mu
 have hb:∀b,H b=none->b≠e:=fun b n z=>by
  subst z
  rcases he with r|r
  ·exact hx b n r
  ·rw [n] at r;cases r
 have hm:∀b u,H b=some u->¬Mut (some u)->b≠x:=fun b u q nm z=>by subst z;rw [q] at mu;exact nm mu
 refine ⟨fun b u q n _ _=>k b u (hb b n) q,fun b u q n _ _=>⟨u.slots,k b u (hb b n) q⟩,fun b u q n _=>by rw [a0J (hx b n)];exact n,fun b u q _=>?_,
  fun b xs q=>by rw [a0J (hm b _ q fun z=>z)];exact q,fun b u xs q=>by rw [a0J (hm b _ q fun z=>z)];exact q,fun b ps q=>⟨#[],by rw [a0J (hm b _ q fun z=>z),q];simp⟩⟩
 by_cases hbe:b=e
 ·subst hbe;exact heo
 ·exact ⟨u,k b u hbe q⟩
theorem Un.mono (u:Un fs ex H H1 h h1) (hs:∀b∈fs,b∈fs') (hx:∀b∈ex,b∈ex'):Un fs' ex' H H1 h h1:=
 ⟨fun b ob q n hb he=>u.keep b ob q n (fun z=>hb (hs b z)) fun z=>he (hx b z),fun _ _ q n _ he=>u.any q n fun z=>he (hx _ z),fun b ob q n he=>u.free b ob q n fun z=>he (hx b z),fun b ob q he=>u.there b ob q fun z=>he (hx b z),u.tups,u.frzs,u.tbls⟩
end
def trk (h:Heap) (H:Hp):List Addr:=(List.range h.objs.size).filter fun a=>(H a).isSome
def hidT (h:Heap) (H:Hp):Heap:=PySem.W.hideAll h (trk h H)
theorem b64 (h:Heap) (H:Hp):(hidT h H).objs.size=h.objs.size:=PySem.W.hideAll_size _ _
theorem hidT_get {h:Heap} {H:Hp} {b:Addr} {o:Obj} (e:h.get? b=some o) (n:H b=none):(hidT h H).get? b=some o:=
 PySem.W.hideAll_get _ e fun hm=>by
  have q:(H b).isSome=true:=(mem_filter.mp hm).2
  rw [n] at q;simp at q
theorem of_hidT {h:Heap} {H:Hp} {b:Addr} {o:Obj} (e:(hidT h H).get? b=some o):h.get? b=some o/\H b=none:=by
 have e':h.get? b=some o:=PySem.W.of_hideAll (trk h H) e
 refine ⟨e',?_⟩
 cases q:H b with
 | none=>rfl
 | some x=>
  have hm:b∈trk h H:=mem_filter.mpr ⟨mem_range.mpr (lt_size e'),by simp [q]⟩
  have z:(hidT h H).get? b=none:=PySem.W.hideAll_none (trk h H) hm
  rw [z] at e;cases e
def allNews (g h:Heap) (L:Addr):List (Addr×Obj):=(List.range h.objs.size).filterMap fun a=>if a=L\/(g.get? a).isSome=true then none else (h.get? a).map fun o=>(a,o)
def rest (g h:Heap) (L d:Addr):List (Addr×Obj):=(allNews g h L).filter fun p=>decide (p.1≠d)
structure Mod (K:Frag) (mg:Str->Option Value) (base:Heap):Prop where
 kin:K.In base
 glob:base.Ns mainGlobals mg
 blt:∃mb,base.Ns builtinsNs mb/\∀x:Str,x ≠ "__name__" -> mb x=bootBuiltins x
 nolimit:base.NoLimit
structure Cx where
 prog:Program
 w:World
 K:Frag
 mg:Str->Option Value
 base:Heap
 A:Around
 N:List Str
 s₀:Shared
 H₀:Hp
 env:Env
 outer:List Env
 stack:List Env
 ex:List Addr
 fn:Str->Bool
 calm:Bool
 pn:List (Addr×Obj)
 xe:Value->Shared->Prop
def frs (l:List Env):List Addr:=l.filterMap (·.frame)
abbrev Cx.fs (X:Cx):List Addr:=frs X.outer
def Vis (sc:Scope) (x:Str):Prop:=sc.names.lookup x=some .local\/sc.names.lookup x=some .cell\/sc.names.lookup x=some .free
def Loc (sc:Scope) (x:Str):Prop:=sc.names.lookup x=some .local\/sc.names.lookup x=some .cell
def Look (env:Env) (h:Heap) (m:Str->Option Value) (x:Str) (u:Value):Prop:=
 (env.kindOf x=some .local/\m x=some u)\/((env.kindOf x=some .cell\/env.kindOf x=some .free)/\∃c,env.cells.lookup x=some c/\h.IsCell c (some u))
structure Cx.Ok (X:Cx):Prop where
 mod:Mod X.K X.mg X.base
 kind:X.env.scope.kind=.function
 glob:X.env.globals=mainGlobals
 blt:X.env.builtins=builtinsNs
 above:X.s₀.heap.objs.size<=X.env.locals
 inj:∀x y c,X.env.cells.lookup x=some c->X.env.cells.lookup y=some c->x=y
 has:∀x,(X.env.kindOf x=some .cell\/X.env.kindOf x=some .free)->∃c,X.env.cells.lookup x=some c
 cab:∀x c,X.fn x=true->X.env.cells.lookup x=some c->X.s₀.heap.objs.size<=c
 hd:X.calm=true->X.A.handled=none
 frames:X.A.frames=some X.stack
 stk:X.stack=X.outer\/(X.stack=X.env::X.outer/\X.env.frame=some X.env.locals)
 exf:∀b∈X.ex,b≠X.env.locals/\∀x c,X.env.cells.lookup x=some c->c≠b
 bs:∀b o,X.base.get? b=some o->X.s₀.heap.get? b=some o/\X.H₀ b=none
 bsz:X.base.objs.size<=X.s₀.heap.objs.size
 noex:∀b o,X.base.get? b=some o->b∉X.ex
 exfs:∀b∈X.ex,b∉X.fs
 funs:X.s₀.heap.FunFrames X.base X.outer
 frf:∀b∈X.fs,X.H₀ b=none
structure Inv (X:Cx) (pins:List (Addr×Obj)) (σ:List (Option V)) (H:Hp) (s:Shared):Prop where
 ok:X.Ok
 os:s.os=X.s₀.os
 bare:AllBare s.gens
 base:Un X.fs X.ex X.H₀ H X.s₀.heap s.heap
 loc:∃m,s.heap.Ns X.env.locals m/\∀(i:Nat) (x:Str) (v:V),X.N[i]?=some x->σ[i]?=some (some v)->Vis X.env.scope x->∃u,RelV v u/\Look X.env s.heap m x u
 cell:∀x c,X.env.cells.lookup x=some c->∃v,s.heap.IsCell c v
 free:H X.env.locals=none
 freeC:∀x c,X.env.cells.lookup x=some c->H c=none
 pin:∀p∈X.pn++pins,s.heap.get? p.1=some p.2/\H p.1=none/\p.1≠X.env.locals/\p.1∉X.fs/\∀v,p.2.data≠.cell v
 hok:HOk X.prog X.w H s.heap
 len:σ.length=X.N.length
section
variable {X:Cx} {pins:List (Addr×Obj)} {σ:List (Option V)} {H H':Hp} {s:Shared} {h':Heap}
theorem Cx.Ok.nofr (ok:X.Ok) {b:Addr} {o:Obj} (e:X.base.get? b=some o):b∉X.fs:=fun hb=>by
 have:=(ok.funs.mem hb).1
 rw [e] at this;cases this
theorem Inv.bs (I:Inv X pins σ H s):∀b o,X.base.get? b=some o->s.heap.get? b=some o/\H b=none:=fun b o e=>
 ⟨I.base.keep b o (I.ok.bs b o e).1 (I.ok.bs b o e).2 (I.ok.nofr e) (I.ok.noex b o e),I.base.free b o (I.ok.bs b o e).1 (I.ok.bs b o e).2 (I.ok.noex b o e)⟩
theorem Inv.bk (I:Inv X pins σ H s):∀b o,X.base.get? b=some o->s.heap.get? b=some o:=fun b o e=>(I.bs b o e).1
theorem Inv.mod (I:Inv X pins σ H s):Mod X.K X.mg X.base:=I.ok.mod
theorem Inv.kIn (I:Inv X pins σ H s):X.K.In s.heap:=I.ok.mod.kin.keeps I.bk
theorem Inv.nolimit (I:Inv X pins σ H s):s.heap.NoLimit:=I.ok.mod.nolimit.keeps I.bk
theorem Inv.fr (I:Inv X pins σ H s):∃m,Fr X.base X.env.locals s.heap m:=
 let ⟨m,hn,_⟩:=I.loc
 ⟨m,hn,I.bk,le_trans I.ok.bsz I.ok.above⟩
theorem Inv.lt (I:Inv X pins σ H s):X.env.locals<s.heap.objs.size:=let ⟨_,hn,_⟩:=I.loc;hn.lt
theorem Inv.sz (I:Inv X pins σ H s):X.s₀.heap.objs.size<=s.heap.objs.size:=le_trans I.ok.above (le_of_lt I.lt)
theorem Inv.nofs (I:Inv X pins σ H s) {a:Addr} (h:s.heap.objs.size<=a):a∉X.fs:=fun hb=>by
 obtain ⟨_,o,ho,_⟩:=I.ok.funs.mem hb
 exact absurd (lt_of_lt_of_le (lt_size ho) (le_trans I.sz h)) (lt_irrefl _)
theorem Inv.cne (I:Inv X pins σ H s):∀x c,X.env.cells.lookup x=some c->c≠X.env.locals:=fun x c e z=>by
 obtain ⟨v,o,ho,hd⟩:=I.cell x c e
 obtain ⟨m,⟨o',es,ep,ho',hd',_⟩,_⟩:=I.loc
 rw [z,ho'] at ho;cases ho;rw [hd'] at hd;cases hd
theorem Inv.funs (I:Inv X pins σ H s):s.heap.FunFrames X.base X.outer:=by
 have all:∀(l:List Env),(∀b∈frs l,b∈X.fs)->X.s₀.heap.FunFrames X.base l->s.heap.FunFrames X.base l:=by
  intro l
  induction l with
  | nil=>intro _ _;trivial
  | cons env r ih=>
   intro hs hl
   obtain ⟨hk,⟨L,o,hf,hn,ho,hd⟩,hr⟩:=hl
   have hL:L∈X.fs:=hs L (by unfold frs;rw [List.filterMap_cons,hf];exact mem_cons_self)
   obtain ⟨sl,e⟩:=I.base.slot L o ho (I.ok.frf L hL) hL fun z=>I.ok.exfs L z hL
   exact ⟨hk,⟨L,_,hf,hn,e,hd⟩,ih (fun b hb=>hs b (by unfold frs;rw [List.filterMap_cons,hf];exact mem_cons_of_mem _ hb)) hr⟩
 exact all X.outer (fun _ hb=>hb) I.ok.funs
theorem Inv.stack (I:Inv X pins σ H s):s.heap.FunFrames X.base X.stack:=by
 rcases I.ok.stk with e|⟨e,hf⟩
 ·rw [e];exact I.funs
 ·rw [e]
  obtain ⟨m,hn,_⟩:=I.loc
  refine .cons (by rw [I.ok.kind];decide) hf hn ?_ I.funs
  exact Heap.get?_none_of_le (le_trans I.ok.bsz I.ok.above)
theorem Inv.stkSub (I:Inv X pins σ H s):∀b∈frs X.stack,b∈X.env.locals::X.fs:=fun b hb=>by
 rcases I.ok.stk with e|⟨e,hf⟩
 ·rw [e] at hb;exact mem_cons_of_mem _ hb
 ·rw [e] at hb
  unfold frs at hb
  rw [List.filterMap_cons,hf] at hb
  exact hb
theorem Inv.stkFree (I:Inv X pins σ H s):∀b∈frs X.stack,H b=none:=fun b hb=>by
 rcases mem_cons.mp (I.stkSub b hb) with e|hb
 ·rw [e];exact I.free
 ·obtain ⟨_,o,ho,_⟩:=I.ok.funs.mem hb
  exact I.base.free b o ho (I.ok.frf b hb) fun z=>I.ok.exfs b z hb
theorem Inv.step {g':Array GenState} {t':Nat} {d':Drawn} {ch:List Addr} (I:Inv X pins σ H s)
  (hch:∀b∈ch,(b∈X.ex\/X.s₀.heap.objs.size<=b)/\b≠X.env.locals/\(∀x c,X.env.cells.lookup x=some c->c≠b)/\∀p∈X.pn++pins,p.1≠b)
  (keep:∀b o,b≠X.env.locals->b∉X.fs->b∉ch->s.heap.get? b=some o->H b=none->h'.get? b=some o)
  (slot:∀b o,b≠X.env.locals->b∈X.fs->b∉ch->s.heap.get? b=some o->H b=none->∃sl,h'.get? b=some { o with slots:=sl }) (free:∀b o,b∉ch->s.heap.get? b=some o->H b=none->H' b=none)
  (there:∀b o,b∉ch->s.heap.get? b=some o->∃o',h'.get? b=some o')
  (tups:∀b xs,H b=some (.tup xs)->H' b=some (.tup xs)) (frzs:∀b o u,H b=some (.frz o u)->H' b=some (.frz o u)) (tbls:∀b ps,H b=some (.tbl ps)->∃more,H' b=some (.tbl (ps++more)))
  (ns:∀m,s.heap.Ns X.env.locals m->h'.Ns X.env.locals m) (hok:HOk X.prog X.w H' h') (hg:AllBare g'):
  Inv X pins σ H' { s with heap:=h',gens:=g',drawn:=d',toks:=t' }:=by
 have neL:∀b o,X.s₀.heap.get? b=some o->b≠X.env.locals:=fun b o e=>ne_of_lt (lt_of_lt_of_le (lt_size e) I.ok.above)
 have neC:∀b o,X.s₀.heap.get? b=some o->b∉X.ex->b∉ch:=fun b o e hx hb=>by
  rcases (hch b hb).1 with z|z
  ·exact hx z
  ·exact absurd (lt_of_lt_of_le (lt_size e) z) (lt_irrefl _)
 have cellK:∀x c,X.env.cells.lookup x=some c->∀v,s.heap.IsCell c v->h'.IsCell c v:=fun x c e v ⟨o,ho,hd⟩=>by
  have nch:c∉ch:=fun z=>(hch c z).2.2.1 x c e rfl
  by_cases hc:c∈X.fs
  ·obtain ⟨sl,q⟩:=slot c o (I.cne x c e) hc nch ho (I.freeC x c e)
   exact ⟨_,q,hd⟩
  ·exact ⟨o,keep c o (I.cne x c e) hc nch ho (I.freeC x c e),hd⟩
 refine ⟨I.ok,I.os,hg,⟨fun b o e n hb hx=>?_,fun b o e n hb hx=>?_,fun b o e n hx=>?_,fun b o e hx=>?_,fun b xs e=>tups b xs (I.base.tups b xs e),fun b o xs e=>frzs b o xs (I.base.frzs b o xs e),fun b ps e=>?_⟩,?_,fun x c e=>?_,?_,fun x c e=>?_,fun p hp=>?_,hok,I.len⟩
 ·exact keep b o (neL b o e) hb (neC b o e hx) (I.base.keep b o e n hb hx) (I.base.free b o e n hx)
 ·obtain ⟨sl,e1⟩:=I.base.slot b o e n hb hx
  obtain ⟨sl',e2⟩:=slot b _ (neL b o e) hb (neC b o e hx) e1 (I.base.free b o e n hx)
  exact ⟨sl',e2⟩
 ·obtain ⟨o',e1⟩:=I.base.there b o e hx
  exact free b o' (neC b o e hx) e1 (I.base.free b o e n hx)
 ·obtain ⟨o',e1⟩:=I.base.there b o e hx
  exact there b o' (neC b o e hx) e1
 ·obtain ⟨m1,e1⟩:=I.base.tbls b ps e
  obtain ⟨m2,e2⟩:=tbls b _ e1
  exact ⟨m1++m2,by rw [e2,Array.append_assoc]⟩
 ·obtain ⟨m,hn,hl⟩:=I.loc
  refine ⟨m,ns m hn,fun i x v e1 e2 e3=>?_⟩
  obtain ⟨u,r,l⟩:=hl i x v e1 e2 e3
  refine ⟨u,r,?_⟩
  rcases l with l|⟨k,c,e,z⟩
  ·exact .inl l
  ·exact .inr ⟨k,c,e,cellK x c e _ z⟩
 ·obtain ⟨v,z⟩:=I.cell x c e
  exact ⟨v,cellK x c e v z⟩
 ·obtain ⟨m,⟨o,_,_,ho,_⟩,_⟩:=I.loc
  exact free _ o (fun z=>(hch _ z).2.1 rfl) ho I.free
 ·obtain ⟨v,o,ho,hd⟩:=I.cell x c e
  exact free c o (fun z=>(hch c z).2.2.1 x c e rfl) ho (I.freeC x c e)
 ·obtain ⟨e,n,ne,nf,d⟩:=I.pin p hp
  have nch:p.1∉ch:=fun z=>(hch p.1 z).2.2.2 p hp rfl
  exact ⟨keep p.1 p.2 ne nf nch e n,free p.1 p.2 nch e n,ne,nf,d⟩
theorem Inv.un {t':Nat} (I:Inv X pins σ H s) (u:Un X.fs [] H H' s.heap h') (hok:HOk X.prog X.w H' h'):Inv X pins σ H' { s with heap:=h',toks:=t' }:=by
 obtain ⟨m,⟨o,es,ep,ho,r⟩,_⟩:=id I.loc
 obtain ⟨sl,hL⟩:=u.any ho I.free (by simp)
 exact I.step (g':=s.gens) (d':=s.drawn) (ch:=[]) (fun _ z=>nomatch z) (fun b o _ hb _ e n=>u.keep b o e n hb (by simp)) (fun b o _ hb _ e n=>u.slot b o e n hb (by simp)) (fun b o _ e n=>u.free b o e n (by simp)) (fun b o _ e=>u.there b o e (by simp)) u.tups u.frzs u.tbls (fun m' hm=>by
  obtain ⟨o',es',ep',ho',r'⟩:=hm
  rw [ho] at ho';cases ho'
  exact ⟨_,es',ep',hL,r'⟩) hok I.bare
theorem Inv.call {g':Array GenState} {t':Nat} {d':Drawn} {ch:List Addr} (I:Inv X pins σ H s) (u:Un (frs X.stack) ch H H' s.heap h') (hok:HOk X.prog X.w H' h') (hg:AllBare g')
  (hch:∀b∈ch,(b∈X.ex\/X.s₀.heap.objs.size<=b)/\b≠X.env.locals/\(∀x c,X.env.cells.lookup x=some c->c≠b)/\∀p∈X.pn++pins,p.1≠b):
  Inv X pins σ H' { s with heap:=h',gens:=g',drawn:=d',toks:=t' }:=by
 obtain ⟨m,⟨o,es,ep,ho,r⟩,_⟩:=id I.loc
 obtain ⟨sl,hL⟩:=u.any ho I.free fun z=>(hch _ z).2.1 rfl
 exact I.step (ch:=ch) hch (fun b o hL hb hc e n=>u.keep b o e n (fun z=>(mem_cons.mp (I.stkSub b z)).elim hL hb) hc) (fun b o _ _ hc e n=>u.any e n hc) (fun b o hc e n=>u.free b o e n hc) (fun b o hc e=>u.there b o e hc) u.tups u.frzs u.tbls (fun m' hm=>by
  obtain ⟨o',es',ep',ho',r'⟩:=hm
  rw [ho] at ho';cases ho'
  exact ⟨_,es',ep',hL,r'⟩) hok hg
theorem Inv.turned {t':Nat} {it:Addr} (I:Inv X pins σ H s) (k:∀b o,b≠it->s.heap.get? b=some o->h'.get? b=some o) (hn:H it=none) (hL:it≠X.env.locals)
  (h1:it∈X.ex\/X.s₀.heap.objs.size<=it) (h2:∀x c,X.env.cells.lookup x=some c->c≠it) (h3:∀p∈X.pn++pins,p.1≠it):Inv X pins σ H { s with heap:=h',toks:=t' }:=by
 have nit:∀b u,H b=some u->b≠it:=fun b u e z=>by rw [z,hn] at e;cases e
 refine I.step (g':=s.gens) (d':=s.drawn) (ch:=[it]) (fun b hb=>?_) (fun b o _ _ hc e _=>k b o (fun z=>hc (by simp [z])) e) (fun b o _ _ hc e _=>⟨o.slots,k b o (fun z=>hc (by simp [z])) e⟩) (fun _ _ _ _ n=>n)
  (fun b o hc e=>⟨o,k b o (fun z=>hc (by simp [z])) e⟩) (fun _ _ e=>e) (fun _ _ _ e=>e) (fun b ps e=>⟨#[],by rw [e];simp⟩) (fun m hm=>?_) (fun b u e=>?_) I.bare
 ·have e:b=it:=by simpa using hb
  subst e
  exact ⟨h1,hL,h2,h3⟩
 ·obtain ⟨o,es,ep,ho,r⟩:=hm
  exact ⟨o,es,ep,k _ o (Ne.symm hL) ho,r⟩
 ·refine (I.hok b u e).stay (fun c v hc q=>k c v ?_ q) (fun _ q=>q) (fun _ _ q=>q) fun _ _ _ q=>q
  rcases hc with z|z
  ·rw [z];exact nit b u e
  ·exact nit c _ z
theorem Inv.tok (I:Inv X pins σ H s) (t:Nat):Inv X pins σ H { s with toks:=t }:=I.un (h':=s.heap) (t':=t) Un.refl I.hok
theorem Inv.kept {t':Nat} (I:Inv X pins σ H s) (k:∀b u,s.heap.get? b=some u->h'.get? b=some u):Inv X pins σ H { s with heap:=h',toks:=t' }:=I.un (Un.kept k) (I.hok.kept k)
theorem Inv.laid {a:Addr} {o:HO} {t':Nat} (I:Inv X pins σ H s) (k:∀b u,s.heap.get? b=some u->h'.get? b=some u) (hp:s.heap.objs.size<=a) (new:a3n X.prog X.w (upd H a o) h' a o):
  Inv X pins σ (upd H a o) { s with heap:=h',toks:=t' }:=I.un (Un.laid k hp (I.hok.fresh hp)) (I.hok.laid k hp new)
theorem Inv.write {x e:Addr} {o:HO} {t':Nat} (I:Inv X pins σ H s) (mu:Mut (H x)) (he:e=x\/H e=some (.own x)) (k:∀b u,b≠e->s.heap.get? b=some u->h'.get? b=some u) (heo:∃u,h'.get? e=some u)
  (new:a3n X.prog X.w (upd H x o) h' x o):Inv X pins σ (upd H x o) { s with heap:=h',toks:=t' }:=I.un (Un.write mu he k heo) (I.hok.write mu he k heo new)
theorem Inv.pins_of {pins':List (Addr×Obj)} (I:Inv X pins σ H s) (h:∀p∈pins',s.heap.get? p.1=some p.2/\H p.1=none/\p.1≠X.env.locals/\p.1∉X.fs/\∀v,p.2.data≠.cell v):Inv X pins' σ H s:=
 ⟨I.ok,I.os,I.bare,I.base,I.loc,I.cell,I.free,I.freeC,fun p hp=>(mem_append.mp hp).elim (fun z=>I.pin p (List.mem_append_left _ z)) (h p),I.hok,I.len⟩
theorem b3J {N:List Str} (hN:N.Nodup) {i j:Nat} {x:Str} (a:N[i]?=some x) (b:N[j]?=some x):i=j:=by
 obtain ⟨h1,e1⟩:=List.getElem?_eq_some_iff.mp a
 obtain ⟨h2,e2⟩:=List.getElem?_eq_some_iff.mp b
 exact (List.getElem_inj hN).mp (e1.trans e2.symm)
theorem b0W {M:Model} {A:Around} {E:Value->Shared->Prop} {i:Nat} {x:Str} {v:V} {u:Value} {Q:Unit->Shared->Prop} (I:Inv X pins σ H s) (hN:X.N.Nodup) (hi:X.N[i]?=some x) (hx:Loc X.env.scope x) (r:RelV v u)
  (h:∀s',Inv X pins (σ.set i (some v)) H s'->(∃a,Heap.SameBut a s.heap s'.heap/\(a=X.env.locals\/X.env.cells.lookup x=some a))->Q () s') (hf:X.fn x=true\/X.env.scope.names.lookup x=some .local:=by first|exact .inl rfl|exact .inr rfl|assumption):wpAny M A (storeName X.env x u) Q E s:=by
 obtain ⟨m,hn,hl⟩:=id I.loc
 have hcls:(X.env.scope.kind == .class || (X.env.scope.kind == .module && X.env.locals != X.env.globals))=false:=by rw [I.ok.kind];rfl
 have hiσ:i<σ.length:=by rw [I.len];exact (List.getElem?_eq_some_iff.mp hi).1
 have cne:=I.cne
 have tracked:∀{a:Addr} {h':Heap},(∃o,s.heap.get? a=some o/\H a=none)->Heap.SameBut a s.heap h'->HOk X.prog X.w H h':=fun {a h'} ha hs b ob e=>by
  obtain ⟨_,_,hfree⟩:=ha
  refine (I.hok b ob e).stay (fun c w' hc q=>(hs.2 c ?_).trans q) (fun _ q=>q) (fun _ _ q=>q) fun _ _ _ q=>q
  rintro rfl
  rcases hc with rfl|hc
  ·rw [hfree] at e;cases e
  ·rw [hfree] at hc;cases hc
 rcases hx with hk|hk
 ·refine wpAny_storeName_local hk hn (fun h' hn' hs=>?_) hcls
  obtain ⟨oL,_,_,hoL,_⟩:=id hn
  refine h _ ⟨I.ok,I.os,I.bare,⟨fun b o e n hb hx=>?_,fun b o e n hb hx=>?_,I.base.free,fun b o e hx=>?_,I.base.tups,I.base.frzs,I.base.tbls⟩,⟨_,hn',fun j y v' e1 e2 e3=>?_⟩,fun y c e=>?_,I.free,I.freeC,fun p hp=>?_,tracked ⟨oL,hoL,I.free⟩ hs,by simpa using I.len⟩ ⟨_,hs,.inl rfl⟩
  ·exact (hs.2 b (ne_of_lt (lt_of_lt_of_le (lt_size e) I.ok.above))).trans (I.base.keep b o e n hb hx)
  ·obtain ⟨sl,e1⟩:=I.base.slot b o e n hb hx
   exact ⟨sl,(hs.2 b (ne_of_lt (lt_of_lt_of_le (lt_size e) I.ok.above))).trans e1⟩
  ·obtain ⟨o',e1⟩:=I.base.there b o e hx
   exact ⟨o',(hs.2 b (ne_of_lt (lt_of_lt_of_le (lt_size e) I.ok.above))).trans e1⟩
  ·by_cases hj:j=i
   ·subst hj
    rw [hi] at e1;cases e1
    rw [getElem?_set_self hiσ] at e2
    cases e2
    exact ⟨u,r,.inl ⟨hk,by simp⟩⟩
   ·rw [getElem?_set_ne (Ne.symm hj)] at e2
    obtain ⟨u',r',q⟩:=hl j y v' e1 e2 e3
    refine ⟨u',r',?_⟩
    rcases q with ⟨k,e⟩|⟨k,c,e,z⟩
    ·refine .inl ⟨k,?_⟩
     have:y≠x:=fun e=>hj (b3J hN e1 (e▸hi))
     simp [this,e]
    ·exact .inr ⟨k,c,e,z.sameBut hs (cne y c e)⟩
  ·obtain ⟨w',z⟩:=I.cell y c e
   exact ⟨w',z.sameBut hs (cne y c e)⟩
  ·obtain ⟨e,n,ne,nf,d⟩:=I.pin p hp
   exact ⟨(hs.2 p.1 ne).trans e,n,ne,nf,d⟩
 ·have hfn:X.fn x=true:=by
   rcases hf with z|z
   ·exact z
   ·rw [z] at hk;cases hk
  obtain ⟨c,hc⟩:=I.ok.has x (.inl hk)
  obtain ⟨w',z⟩:=I.cell x c hc
  refine wpAny_storeName_cell I.ok.kind hk hc z (fun h' hc' hs=>?_)
  obtain ⟨oc,hoc,hocd⟩:=id z
  refine h { s with heap:=h' } ⟨I.ok,I.os,I.bare,⟨fun b o e n hb hx=>?_,fun b o e n hb hx=>?_,I.base.free,fun b o e hx=>?_,I.base.tups,I.base.frzs,I.base.tbls⟩,⟨m,hn.sameBut hs (Ne.symm (cne x c hc)),fun j y v' e1 e2 e3=>?_⟩,fun y c' e=>?_,I.free,I.freeC,fun p hp=>?_,tracked ⟨oc,hoc,I.freeC x c hc⟩ hs,by simpa using I.len⟩ ⟨c,hs,.inr hc⟩
  ·exact (hs.2 b (ne_of_lt (lt_of_lt_of_le (lt_size e) (I.ok.cab x c hfn hc)))).trans (I.base.keep b o e n hb hx)
  ·obtain ⟨sl,e1⟩:=I.base.slot b o e n hb hx
   exact ⟨sl,(hs.2 b (ne_of_lt (lt_of_lt_of_le (lt_size e) (I.ok.cab x c hfn hc)))).trans e1⟩
  ·obtain ⟨o',e1⟩:=I.base.there b o e hx
   exact ⟨o',(hs.2 b (ne_of_lt (lt_of_lt_of_le (lt_size e) (I.ok.cab x c hfn hc)))).trans e1⟩
  ·by_cases hj:j=i
   ·subst hj
    rw [hi] at e1;cases e1
    rw [getElem?_set_self hiσ] at e2
    cases e2
    exact ⟨u,r,.inr ⟨.inl hk,c,hc,hc'⟩⟩
   ·rw [getElem?_set_ne (Ne.symm hj)] at e2
    obtain ⟨u',r',q⟩:=hl j y v' e1 e2 e3
    refine ⟨u',r',?_⟩
    rcases q with q|⟨k,c',e,z'⟩
    ·exact .inl q
    ·refine .inr ⟨k,c',e,z'.sameBut hs ?_⟩
     rintro rfl
     exact hj (b3J hN e1 (I.ok.inj _ _ _ e hc▸hi))
  ·by_cases hcc:c'=c
   ·subst hcc;exact ⟨_,hc'⟩
   ·obtain ⟨w2,z2⟩:=I.cell y c' e
    exact ⟨w2,z2.sameBut hs hcc⟩
  ·obtain ⟨e,n,ne,nf,d⟩:=I.pin p hp
   refine ⟨(hs.2 p.1 ?_).trans e,n,ne,nf,d⟩
   intro q
   rw [q,hoc] at e
   have q':oc=p.2:=Option.some.inj e
   exact d w' (by rw [←q'];exact hocd)
theorem b3t {M:Model} {A:Around} {E:Value->Shared->Prop} {i:Nat} {x:Str} {v:V} {u:Value} {Q:Unit->Shared->Prop} (I:Inv X pins σ H s) (hN:X.N.Nodup) (hi:X.N[i]?=some x) (hx:Loc X.env.scope x) (r:RelV v u)
  (h:∀s',Inv X pins (σ.set i (some v)) H s'->Q () s') (hf:X.fn x=true\/X.env.scope.names.lookup x=some .local:=by first|exact .inl rfl|exact .inr rfl|assumption):wpAny M A (storeName X.env x u) Q E s:=
 b0W I hN hi hx r (fun s' I' _=>h s' I') hf
theorem Inv.call' {s':Shared} {ch:List Addr} (I:Inv X pins σ H s) (ho:s'.os=s.os) (u:Un (frs X.stack) ch H H' s.heap s'.heap) (hok:HOk X.prog X.w H' s'.heap) (hg:AllBare s'.gens)
  (hch:∀b∈ch,(b∈X.ex\/X.s₀.heap.objs.size<=b)/\b≠X.env.locals/\(∀x c,X.env.cells.lookup x=some c->c≠b)/\∀p∈X.pn++pins,p.1≠b):Inv X pins σ H' s':=by
 obtain ⟨h',g',d',t',o'⟩:=s'
 have e:o'=s.os:=ho
 subst e
 exact I.call (g':=g') (t':=t') (d':=d') u hok hg hch
end
abbrev XK:=Value->Option Addr->Hp->Prop
abbrev St:=List (Option V)
abbrev VK:=V->Hp->Prop
abbrev TE:=St->Hp->VK->Prop
abbrev TT:=St->Hp->(Bool->Hp->Prop)->Prop
abbrev TA:=St->Hp->(List V->Hp->Prop)->Prop
structure Ends where
 nx:St->Hp->Prop
 rt:VK
 bk:St->Hp->Prop:=fun _ _=>False
 ct:St->Hp->Prop:=fun _ _=>False
abbrev TS:=Ends->St->Hp->Prop
def EP (X:Cx) (pins:List (Addr×Obj)) (σ:St) (Q:VK) (u:Value) (s':Shared):Prop:=∃v H',Inv X pins σ H' s'/\RelV v u/\Q v H'
def TP (X:Cx) (pins:List (Addr×Obj)) (σ:St) (Q:Bool->Hp->Prop) (b:Bool) (s':Shared):Prop:=∃H',Inv X pins σ H' s'/\Q b H'
def AP (X:Cx) (pins:List (Addr×Obj)) (σ:St) (Q:List V->Hp->Prop) (us:List Value) (s':Shared):Prop:=∃vs H',Inv X pins σ H' s'/\Vals vs us/\Q vs H'
def SP (X:Cx) (pins:List (Addr×Obj)) (D:Ends) (f:Flow) (s':Shared):Prop:=
 match f with
 | .next=>∃σ' H',Inv X pins σ' H' s'/\D.nx σ' H'
 | .brk=>∃σ' H',Inv X pins σ' H' s'/\D.bk σ' H'
 | .cont=>∃σ' H',Inv X pins σ' H' s'/\D.ct σ' H'
 | .ret u=>∃v σ' H',Inv X pins σ' H' s'/\RelV v u/\D.rt v H'
def PE (X:Cx) (e:Expr) (t:TE):Prop:=
 ∀(pins:List (Addr×Obj)) (s:Shared) (σ:St) (H:Hp) (Q:VK),Inv X pins σ H s->t σ H Q->wpAny (model X.prog X.w) X.A (eval e X.env) (EP X pins σ Q) X.xe s
def PT (X:Cx) (e:Expr) (t:TT):Prop:=
 ∀(pins:List (Addr×Obj)) (s:Shared) (σ:St) (H:Hp) (Q:Bool->Hp->Prop),Inv X pins σ H s->t σ H Q->wpAny (model X.prog X.w) X.A (isTrue e X.env (eval e X.env)) (TP X pins σ Q) X.xe s
def PW (X:Cx) (e:Expr) (t:TT):Prop:=
 ∀(whole:Sem Value) (pins:List (Addr×Obj)) (s:Shared) (σ:St) (H:Hp) (Q:Bool->Hp->Prop),Inv X pins σ H s->t σ H Q->wpAny (model X.prog X.w) X.A (isTrue e X.env whole) (TP X pins σ Q) X.xe s
theorem PW.pt {X:Cx} {e:Expr} {t:TT} (h:PW X e t):PT X e t:=h _
def PA (X:Cx) (es:List Expr) (t:TA):Prop:=
 ∀(pos:Pos) (pins:List (Addr×Obj)) (s:Shared) (σ:St) (H:Hp) (Q:List V->Hp->Prop),Inv X pins σ H s->t σ H Q->wpAny (model X.prog X.w) X.A (spliced (backTo pos (starEach es X.env))) (AP X pins σ Q) X.xe s
def PS (X:Cx) (st:Stmt) (t:TS):Prop:=
 ∀(pins:List (Addr×Obj)) (s:Shared) (σ:St) (H:Hp) (D:Ends),Inv X pins σ H s->t D σ H->wpAny (model X.prog X.w) X.A (exec st X.env) (SP X pins D) X.xe s
def PSs (X:Cx) (st:List Stmt) (t:TS):Prop:=
 ∀(pins:List (Addr×Obj)) (s:Shared) (σ:St) (H:Hp) (D:Ends),Inv X pins σ H s->t D σ H->wpAny (model X.prog X.w) X.A (execs st X.env) (SP X pins D) X.xe s
theorem thn {α:Type} {t:Sem α} {Q Q':α->Shared->Prop} {M:Model} {A:Around} {E:Value->Shared->Prop} {s:Shared} (h:wpAny M A t Q E s) (hQ:∀a s,Q a s->Q' a s):wpAny M A t Q' E s:=wpAny_mono h hQ fun _ _ x=>x
section
variable {X:Cx}
def tVar (i:Nat):TE:=fun σ H Q=>∃v,σ[i]?=some (some v)/\Q v H
def tC (v:V):TE:=fun _ H Q=>Q v H
theorem pe_var {i:Nat} {x:Str} {pos:Pos} (hN:X.N[i]?=some x) (hv:Vis X.env.scope x) (hd:(x == ("__debug__" : Str))=false:=by decide) (hcd:(x == ("__classdict__" : Str))=false:=by decide):PE X (.Name x pos) (tVar i):=by
 intro pins s σ H Q I h
 obtain ⟨v,e,h⟩:=h
 obtain ⟨m,hn,hl⟩:=I.loc
 obtain ⟨u,r,l⟩:=hl i x v hN e hv
 have fin:EP X pins σ Q u s:=⟨v,H,I,r,h⟩
 rcases l with ⟨hk,hm⟩|⟨hk,c,hc,hcell⟩
 ·exact wpAny_Name (wpAny_loadName_local I.ok.kind hk hn hm fin) hd
 ·rcases hk with hk|hk
  ·exact wpAny_Name (wpAny_loadName_cell I.ok.kind hk hc hcell fin) hd
  ·exact wpAny_Name (wpAny_loadName_free I.ok.kind hk hc hcell fin hcd) hd
theorem pe_int {i j pos}:PE X (.Constant (.int i) j pos) (tC (.int i)):=fun _ _ _ H _ I h=>wpAny_Constant_int ⟨.int i,H,I.tok _,⟨_,rfl⟩,h⟩
theorem pe_bl {b j pos}:PE X (.Constant (.bool b) j pos) (tC (.bl b)):=fun _ _ _ H _ I h=>Constant_bool ⟨.bl b,H,I,rfl,h⟩
theorem pe_non {j pos}:PE X (.Constant .none j pos) (tC .non):=fun _ _ _ H _ I h=>Constant_none ⟨.non,H,I,rfl,h⟩
theorem pe_str {x j pos}:PE X (.Constant (.str x) j pos) (tC (.str x)):=fun _ _ _ H _ I h=>Calls.Constant_str ⟨.str x,H,I.tok _,⟨_,rfl⟩,h⟩
def Gl (X:Cx) (x:Str):Prop:=X.env.kindOf x=some .globalImplicit
theorem b0l {E:Value->Shared->Prop} {pins:List (Addr×Obj)} {s:Shared} {σ:St} {H:Hp} {x:Str} {u:Value} {pos:Pos} {Q:Value->Shared->Prop} (I:Inv X pins σ H s) (hg:Gl X x) (hm:X.mg x=some u) (h:Q u s)
  (hd:(x == ("__debug__" : Str))=false:=by decide):wpAny (model X.prog X.w) X.A (eval (.Name x pos) X.env) Q E s:=
 Calls.Name_function_global I.ok.kind hg (Calls.loadGlobal_global (by rw [I.ok.glob];exact I.mod.glob.keeps I.bk) hm h) hd
theorem a84 {E:Value->Shared->Prop} {pins:List (Addr×Obj)} {s:Shared} {σ:St} {H:Hp} {x:Str} {u:Value} {pos:Pos} {Q:Value->Shared->Prop} (I:Inv X pins σ H s) (hg:Gl X x) (hm:X.mg x=none) (hv:bootBuiltins x=some u) (h:Q u s)
  (hn:x ≠ "__name__" := by decide) (hd:(x == ("__debug__" : Str))=false:=by decide):wpAny (model X.prog X.w) X.A (eval (.Name x pos) X.env) Q E s:=by
 obtain ⟨mb,h1,h2⟩:=I.mod.blt
 exact Calls.Name_function_global I.ok.kind hg (Calls.loadGlobal_builtin (by rw [I.ok.glob];exact I.mod.glob.keeps I.bk) hm (by rw [I.ok.blt];exact h1.keeps I.bk) ((h2 x hn).trans hv) h) hd
theorem pe_bltn {x:Str} {v:V} {u:Value} {pos:Pos} (hg:Gl X x) (hm:X.mg x=none) (hv:bootBuiltins x=some u) (r:RelV v u) (hn:x ≠ "__name__" := by decide) (hd:(x == ("__debug__" : Str))=false:=by decide):PE X (.Name x pos) (tC v):=
 fun _ _ _ H _ I h=>a84 I hg hm hv ⟨v,H,I,r,h⟩ hn hd
def t2I (ta tb:TE) (k:Int->Int->Hp->Prop):St->Hp->Prop:=fun σ H=>ta σ H fun x H1=>tb σ H1 fun y H2=>∃i j,x=.int i/\y=.int j/\k i j H2
def tAdd (ta tb:TE):TE:=fun σ H Q=>t2I ta tb (fun i j H2=>Q (.int (i+j)) H2) σ H
def tSub (ta tb:TE):TE:=fun σ H Q=>t2I ta tb (fun i j H2=>Q (.int (i - j)) H2) σ H
def tMul (ta tb:TE):TE:=fun σ H Q=>t2I ta tb (fun i j H2=>(-(2 ^ 64)<i/\i<2 ^ 64)/\Q (.int (i * j)) H2) σ H
variable {a b:Expr} {ta tb:TE} {pos:Pos}
def PC (X:Cx) (op:CmpOp) (a b:Expr) (t:TE):Prop:=
 ∀(pins:List (Addr×Obj)) (s:Shared) (σ:St) (H:Hp) (Q:VK),Inv X pins σ H s->t σ H Q->
  wpAny (model X.prog X.w) X.A (eval a X.env) (fun v s₁=>wpAny (model X.prog X.w) X.A (eval b X.env) (fun u s₂=>wpAny (model X.prog X.w) X.A (compareOp op v u) (EP X pins σ Q) X.xe s₂) X.xe s₁) X.xe s
theorem b3K (b:Expr) {op:CmpOp} (h:op≠.In) (h2:op≠.NotIn):behindInMarks op b=false:=by
 have e1:(op == CmpOp.In)=false:=by cases op <;> first|rfl|exact absurd rfl h
 have e2:(op == CmpOp.NotIn)=false:=by cases op <;> first|rfl|exact absurd rfl h2
 cases b <;> simp [behindInMarks,e1,e2]
def tCmp (p:Int->Int->Bool) (ta tb:TE):TE:=fun σ H Q=>t2I ta tb (fun i j H2=>Q (.bl (p i j)) H2) σ H
abbrev tLt:TE->TE->TE:=tCmp fun i j=>decide (i<j)
abbrev tLe:TE->TE->TE:=tCmp fun i j=>decide (i<=j)
abbrev tGt:TE->TE->TE:=tCmp fun i j=>decide (j<i)
abbrev tGe:TE->TE->TE:=tCmp fun i j=>decide (j<=i)
abbrev tEqI:TE->TE->TE:=tCmp fun i j=>decide (i=j)
abbrev tNeI:TE->TE->TE:=tCmp fun i j=>!decide (i=j)
def tIsN (ta:TE):TE:=fun σ H Q=>ta σ H fun x H1=>Q (.bl (decide (x=.non))) H1
def tNotN (ta:TE):TE:=fun σ H Q=>ta σ H fun x H1=>Q (.bl (!decide (x=.non))) H1
theorem RelV.none_iff {x:V} {v:Value} (r:RelV x v):(v == Value.none)=decide (x=.non):=by
 cases x with
 | non=>cases r;rfl
 | bl _=>cases r;rfl
 | int _=>obtain ⟨t,rfl⟩:=r;rfl
 | str _=>obtain ⟨t,rfl⟩:=r;rfl
 | byt _=>obtain ⟨t,rfl⟩:=r;rfl
 | flt _=>obtain ⟨t,rfl⟩:=r;rfl
 | ref _=>cases r;rfl
 | ty _=>cases r;rfl
theorem pc_isN {j pos'} (ha:PE X a ta):PC X .Is a (.Constant .none j pos') (tIsN ta):=by
 intro pins s σ H Q I h
 refine thn (ha pins s σ H _ I h) fun v s1 ⟨x,H1,I1,r1,q1⟩=>?_
 exact Constant_none (is_none_gen ⟨.bl _,H1,I1,by rw [r1.none_iff];rfl,q1⟩)
theorem pc_notN {j pos'} (ha:PE X a ta):PC X .IsNot a (.Constant .none j pos') (tNotN ta):=by
 intro pins s σ H Q I h
 refine thn (ha pins s σ H _ I h) fun v s1 ⟨x,H1,I1,r1,q1⟩=>?_
 exact Constant_none (isnot_none_gen ⟨.bl _,H1,I1,by rw [r1.none_iff];rfl,q1⟩)
def tB (t:TE):TT:=fun σ H Q=>t σ H fun x H1=>∃c,x=.bl c/\Q c H1
theorem pe_cmp {op:CmpOp} {t:TE} (h:PC X op a b t) (h1:behindInMarks op b=false:=by first|exact b3K _ (by decide) (by decide)|rfl):PE X (.Compare a [op] [b] pos) t:=fun pins s σ H Q I hw=>wpAny_Compare1 (h pins s σ H Q I hw) h1
theorem b6c {op:CmpOp} {t:TE} (h:PC X op a b t) (h1:behindInMarks op b=false:=by first|exact b3K _ (by decide) (by decide)|rfl):PT X (.Compare a [op] [b] pos) (tB t):=by
 intro pins s σ H Q I hw
 refine wpAny_isTrue_Compare1 (thn (h pins s σ H _ I hw) fun v s1 h1=>thn h1 fun u s2 h2=>thn h2 fun c s3 ⟨x,H1,I1,r1,q1⟩=>?_) h1
 obtain ⟨d,rfl,q⟩:=q1
 cases r1
 exact wpAny_truthy_bool ⟨H1,I1,q⟩
theorem pt_val {e:Expr} {t:TE} (h:PE X e t) (he:∀whole,isTrue e X.env whole=(do let v ←whole;standAt e.pos;holding [v] (truthy v)):=by intro _;rfl):PT X e (tB t):=by
 intro pins s σ H Q I hw
 refine isTrue_plain (thn (h pins s σ H _ I hw) fun v s1 ⟨x,H1,I1,r1,q1⟩=>?_) (he _)
 obtain ⟨d,rfl,q⟩:=q1
 cases r1
 exact wpAny_truthy_bool ⟨H1,I1,q⟩
variable {tA tB':TT} {rest:List Expr}
def tAnd (t u:TT):TT:=fun σ H Q=>t σ H fun c H1=>if c=true then u σ H1 Q else Q false H1
def tOr (t u:TT):TT:=fun σ H Q=>t σ H fun c H1=>if c=true then Q true H1 else u σ H1 Q
def tNot (t:TT):TT:=fun σ H Q=>t σ H fun c H1=>Q (!c) H1
theorem pw_and1 (ha:PT X a tA):PW X (.BoolOp .And [a] pos) tA:=by
 intro wh pins s σ H Q I h
 refine isTrue_and (thn (ha pins s σ H Q I h) fun c s1 e=>?_)
 cases c with
 | true=>exact isTrue_and_nil e
 | false=>exact e
theorem pw_or1 (ha:PT X a tA):PW X (.BoolOp .Or [a] pos) tA:=by
 intro wh pins s σ H Q I h
 refine isTrue_or (thn (ha pins s σ H Q I h) fun c s1 e=>?_)
 cases c with
 | false=>exact isTrue_or_nil e
 | true=>exact e
theorem pw_and (ha:PT X a tA) (hb:PW X (.BoolOp .And (b::rest) pos) tB'):PW X (.BoolOp .And (a::b::rest) pos) (tAnd tA tB'):=by
 intro wh pins s σ H Q I h
 refine isTrue_and (thn (ha pins s σ H _ I h) fun c s1 ⟨H1,I1,q1⟩=>?_)
 cases c with
 | true=>exact hb wh pins s1 σ H1 Q I1 q1
 | false=>exact ⟨H1,I1,q1⟩
theorem pw_or (ha:PT X a tA) (hb:PW X (.BoolOp .Or (b::rest) pos) tB'):PW X (.BoolOp .Or (a::b::rest) pos) (tOr tA tB'):=by
 intro wh pins s σ H Q I h
 refine isTrue_or (thn (ha pins s σ H _ I h) fun c s1 ⟨H1,I1,q1⟩=>?_)
 cases c with
 | true=>exact ⟨H1,I1,q1⟩
 | false=>exact hb wh pins s1 σ H1 Q I1 q1
theorem pt_not (ha:PT X a tA):PT X (.UnaryOp .Not a pos) (tNot tA):=by
 intro pins s σ H Q I h
 exact isTrue_not (ha pins s σ H (fun c H1=>Q (!c) H1) I h)
def tAndV (ta tb:TE):TE:=fun σ H Q=>ta σ H fun x H1=>∃c,x=.bl c/\if c=true then tb σ H1 Q else Q (.bl false) H1
def tOrV (ta tb:TE):TE:=fun σ H Q=>ta σ H fun x H1=>∃c,x=.bl c/\if c=true then Q (.bl true) H1 else tb σ H1 Q
def tNotV (ta:TE):TE:=fun σ H Q=>ta σ H fun x H1=>∃c,x=.bl c/\Q (.bl (!c)) H1
theorem pe_one {op} {t:TE} (h:PE X a t):PE X (.BoolOp op [a] pos) t:=fun pins s σ H Q I hw=>BoolOp_one (h pins s σ H Q I hw)
theorem pe_and (ha:PE X a ta) (hb:PE X (.BoolOp .And (b::rest) pos) tb):PE X (.BoolOp .And (a::b::rest) pos) (tAndV ta tb):=by
 intro pins s σ H Q I h
 refine BoolOp_and (thn (ha pins s σ H _ I h) fun v s1 ⟨x,H1,I1,r1,q1⟩=>?_)
 obtain ⟨c,rfl,q1⟩:=q1
 cases r1
 refine wpAny_truthy_bool ?_
 cases c with
 | true=>exact hb pins s1 σ H1 Q I1 q1
 | false=>exact ⟨.bl false,H1,I1,rfl,q1⟩
theorem pe_not (ha:PE X a ta):PE X (.UnaryOp .Not a pos) (tNotV ta):=by
 intro pins s σ H Q I h
 refine UnaryOp_ (thn (ha pins s σ H _ I h) fun v s1 ⟨x,H1,I1,r1,q1⟩=>?_)
 obtain ⟨c,rfl,q1⟩:=q1
 cases r1
 exact not_of (wpAny_truthy_bool ⟨.bl (!c),H1,I1,rfl,q1⟩)
def tIf (t:TT) (ta tb:TE):TE:=fun σ H Q=>t σ H fun c H1=>if c=true then ta σ H1 Q else tb σ H1 Q
theorem pe_ifExp {c:Expr} (hc:PT X c tA) (ha:PE X a ta) (hb:PE X b tb):PE X (.IfExp c a b pos) (tIf tA ta tb):=by
 intro pins s σ H Q I h
 refine wpAny_IfExp (thn (hc pins s σ H _ I h) fun d s1 ⟨H1,I1,q1⟩=>?_)
 cases d with
 | true=>exact ha pins s1 σ H1 Q I1 q1
 | false=>exact hb pins s1 σ H1 Q I1 q1
end
def SqL (K:Frag) (H:Hp) (a:Addr) (xs:List V):Prop:=
 Rd H a (.lst xs)\/
  ∃(o:Obj) (its:Array Value) (n:Nat),K.lookup a=some o/\o.cls=.type "list" /\ o.dict=none/\o.data=.seq its n/\its.size<=sizeLine/\Vals xs its.toList
def SqT (K:Frag) (H:Hp) (a:Addr) (xs:List V):Prop:=
 Rd H a (.tup xs)\/
  ∃(o:Obj) (its:Array Value) (n:Nat),K.lookup a=some o/\o.cls=.type "tuple" /\ o.data=.seq its n/\its.size<=sizeLine/\Vals xs its.toList
def absV:Value->Option V
 | .none=>some .non
 | .bool b=>some (.bl b)
 | .int i _=>some (.int i)
 | .str x _=>some (.str x)
 | .bytes b _=>some (.byt b)
 | .float b _=>some (.flt b)
 | .ref a=>some (.ref a)
 | .type n=>some (.ty n)
 | _=>none
theorem RelV.abs {x:V} {u:Value} (r:RelV x u):absV u=some x:=by
 cases x with
 | non=>cases r;rfl
 | bl _=>cases r;rfl
 | int _=>obtain ⟨t,rfl⟩:=r;rfl
 | str _=>obtain ⟨t,rfl⟩:=r;rfl
 | byt _=>obtain ⟨t,rfl⟩:=r;rfl
 | flt _=>obtain ⟨t,rfl⟩:=r;rfl
 | ref _=>cases r;rfl
 | ty _=>cases r;rfl
theorem RelV.inj {x y:V} {u:Value} (r:RelV x u) (q:RelV y u):x=y:=Option.some.inj (r.abs.symm.trans q.abs)
theorem Vals.inj:∀{xs ys:List V} {us:List Value},Vals xs us->Vals ys us->xs=ys
 | _,_,_,.nil,.nil=>rfl
 | _,_,_,.cons r t,.cons r' t'=>by rw [r.inj r',Vals.inj t t']
section
variable {X:Cx} {pins:List (Addr×Obj)} {σ:St} {H:Hp} {s:Shared} {a:Addr} {xs ys:List V}
theorem SqL.of {K:Frag} (h:H a=some (.lst xs)):SqL K H a xs:=.inl (.inl h)
theorem SqT.of {K:Frag} (h:H a=some (.tup xs)):SqT K H a xs:=.inl (.inl h)
theorem Inv.list (I:Inv X pins σ H s) (h:SqL X.K H a xs):∃its:List Value,Vals xs its/\PlainL s.heap a its.toArray/\xs.length<=sizeLine:=by
 rcases h with h|⟨o,its,n,hk,hc,hd,hs,hz,r⟩
 ·obtain ⟨z,its,n,r,e⟩:=h.ok I.hok
  exact ⟨its,r,⟨_,n,e,rfl,rfl,rfl⟩,z⟩
 ·refine ⟨its.toList,r,⟨o,n,I.kIn a o hk,hc,hd,by simpa using hs⟩,?_⟩
  have e:=r.length
  simp only [length_toList] at e
  omega
theorem Inv.tuple (I:Inv X pins σ H s) (h:SqT X.K H a xs):∃its:List Value,Vals xs its/\IsTup s.heap a its.toArray/\xs.length<=sizeLine:=by
 rcases h with h|⟨o,its,n,hk,hc,hs,hz,r⟩
 ·obtain ⟨z,its,r,p⟩:=h.ok I.hok
  exact ⟨its,r,p,z⟩
 ·refine ⟨its.toList,r,⟨o,I.kIn a o hk,hc,n,by simpa using hs⟩,?_⟩
  have e:=r.length
  simp only [length_toList] at e
  omega
theorem Inv.list_inj (I:Inv X pins σ H s) (h:SqL X.K H a xs) (h':SqL X.K H a ys):xs=ys:=by
 obtain ⟨its,r,⟨o,n,e,_,_,d⟩,_⟩:=I.list h
 obtain ⟨its',r',⟨o',n',e',_,_,d'⟩,_⟩:=I.list h'
 rw [e] at e';cases e'
 rw [d] at d'
 injection d' with d1 _
 have:its=its':=by simpa using congrArg Array.toList d1
 subst this
 exact r.inj r'
theorem Inv.tuple_inj (I:Inv X pins σ H s) (h:SqT X.K H a xs) (h':SqT X.K H a ys):xs=ys:=by
 obtain ⟨its,r,⟨o,e,_,n,d⟩,_⟩:=I.tuple h
 obtain ⟨its',r',⟨o',e',_,n',d'⟩,_⟩:=I.tuple h'
 rw [e] at e';cases e'
 rw [d] at d'
 injection d' with d1 _
 have:its=its':=by simpa using congrArg Array.toList d1
 subst this
 exact r.inj r'
end
abbrev Cx.wish (X:Cx) (E:Value->Shared->Prop):Cx:={ X with xe:=E }
abbrev Cx.nox (X:Cx):Cx:=X.wish fun _ _=>False
theorem Cx.Ok.wish {X:Cx} (ok:X.Ok) (E:Value->Shared->Prop):(X.wish E).Ok:=
 ⟨ok.mod,ok.kind,ok.glob,ok.blt,ok.above,ok.inj,ok.has,ok.cab,ok.hd,ok.frames,ok.stk,ok.exf,ok.bs,ok.bsz,ok.noex,ok.exfs,ok.funs,ok.frf⟩
theorem Cx.Ok.unwish {X:Cx} {E:Value->Shared->Prop} (ok:(X.wish E).Ok):X.Ok:=
 ⟨ok.mod,ok.kind,ok.glob,ok.blt,ok.above,ok.inj,ok.has,ok.cab,ok.hd,ok.frames,ok.stk,ok.exf,ok.bs,ok.bsz,ok.noex,ok.exfs,ok.funs,ok.frf⟩
section
variable {X:Cx} {pins:List (Addr×Obj)} {σ:St} {H:Hp} {s:Shared} {E:Value->Shared->Prop}
theorem Inv.wish (I:Inv X pins σ H s) (E:Value->Shared->Prop):Inv (X.wish E) pins σ H s:=⟨I.ok.wish E,I.os,I.bare,I.base,I.loc,I.cell,I.free,I.freeC,I.pin,I.hok,I.len⟩
theorem Inv.unwish (I:Inv (X.wish E) pins σ H s):Inv X pins σ H s:=⟨I.ok.unwish,I.os,I.bare,I.base,I.loc,I.cell,I.free,I.freeC,I.pin,I.hok,I.len⟩
theorem SP.unwish {D:Ends} {f:Flow} {s':Shared} (h:SP (X.wish E) pins D f s'):SP X pins D f s':=by
 cases f with
 | next=>obtain ⟨σ',H',I,q⟩:=h;exact ⟨σ',H',I.unwish,q⟩
 | brk=>obtain ⟨σ',H',I,q⟩:=h;exact ⟨σ',H',I.unwish,q⟩
 | cont=>obtain ⟨σ',H',I,q⟩:=h;exact ⟨σ',H',I.unwish,q⟩
 | ret u=>obtain ⟨v,σ',H',I,r,q⟩:=h;exact ⟨v,σ',H',I.unwish,r,q⟩
theorem PE.nox {e:Expr} {t:TE} (h:PE X.nox e t):PE X e t:=fun pins s σ H Q I hw=>
 wpAny_mono (h pins s σ H Q (I.wish _) hw) (fun _ _ ⟨v,H',I',r,q⟩=>⟨v,H',I'.unwish,r,q⟩) fun _ _ z=>False.elim z
theorem PT.nox {e:Expr} {t:TT} (h:PT X.nox e t):PT X e t:=fun pins s σ H Q I hw=>
 wpAny_mono (h pins s σ H Q (I.wish _) hw) (fun _ _ ⟨H',I',q⟩=>⟨H',I'.unwish,q⟩) fun _ _ z=>False.elim z
theorem PSs.nox {st:List Stmt} {t:TS} (h:PSs X.nox st t):PSs X st t:=fun pins s σ H D I hw=>
 wpAny_mono (h pins s σ H D (I.wish _) hw) (fun _ _ q=>q.unwish) fun _ _ z=>False.elim z
end
section
variable {X:Cx} {st:Stmt} {rest:List Stmt} {t u:TS} {e:Expr} {te:TE} {pos:Pos}
def tNext:TS:=fun D σ H=>D.nx σ H
def tSeq (t u:TS):TS:=fun D σ H=>t { D with nx:=u D } σ H
theorem b6d:PSs X [] tNext:=fun _ _ σ H _ I h=>wpAny_execs_nil ⟨σ,H,I,h⟩
theorem b3D (h1:PS X st t) (h2:PSs X rest u):PSs X (st::rest) (tSeq t u):=by
 intro pins s σ H D I h
 refine wpAny_execs_cons (thn (h1 pins s σ H { D with nx:=u D } I h) fun f s1 q=>?_)
 cases f with
 | next=>
  obtain ⟨σ',H',I',q⟩:=q
  exact h2 pins s1 σ' H' D I' q
 | ret v=>exact q
 | brk=>exact q
 | cont=>exact q
theorem pss_one (h1:PS X st t):PSs X [st] t:=by
 intro pins s σ H D I h
 refine wpAny_execs_cons (thn (h1 pins s σ H D I h) fun f s1 q=>?_)
 cases f with
 | next=>exact wpAny_execs_nil q
 | ret v=>exact q
 | brk=>exact q
 | cont=>exact q
def tBreak:TS:=fun D σ H=>D.bk σ H
def tCont:TS:=fun D σ H=>D.ct σ H
theorem Inv.quiet {pins:List (Addr×Obj)} {σ:St} {H:Hp} {s:Shared} (I:Inv X pins σ H s):interactive X.env=false:=by simp [interactive,I.ok.kind]
def tDrop (te:TE):TS:=fun D σ H=>te σ H fun _ H1=>D.nx σ H1
theorem a90 (he:PE X e te) (hs:swapsWith e none pos.line X.env=pure false:=by rfl):PS X (.Expr e pos) (tDrop te):=by
 intro pins s σ H D I h
 exact wpAny_Expr_any (thn (he pins s σ H _ I h) fun v s1 ⟨x,H1,I1,r1,q1⟩=>⟨σ,H1,I1,q1⟩) I.quiet hs
def tRet (te:TE):TS:=fun D σ H=>te σ H D.rt
theorem ps_ret (he:PE X e te):PS X (.Return (some e) pos) (tRet te):=by
 intro pins s σ H D I h
 exact wpAny_Return_some (thn (he pins s σ H _ I h) fun v s1 ⟨x,H1,I1,r1,q1⟩=>⟨x,σ,H1,I1,r1,q1⟩)
def tRetN:TS:=fun D _ H=>D.rt .non H
def tIfS (c:TT) (t u:TS):TS:=fun D σ H=>c σ H fun b H1=>if b=true then t D σ H1 else u D σ H1
theorem ps_if {c:Expr} {a b:List Stmt} {tc:TT} (hc:PT X c tc) (ha:PSs X a t) (hb:PSs X b u):PS X (.If c a b pos) (tIfS tc t u):=by
 intro pins s σ H D I h
 refine wpAny_If (thn (hc pins s σ H _ I h) fun d s1 ⟨H1,I1,q1⟩=>?_)
 cases d with
 | true=>exact ha pins s1 σ H1 D I1 q1
 | false=>exact hb pins s1 σ H1 D I1 q1
def tNever:TS:=fun _ _ _=>False
end
abbrev TG:=V->St->Hp->(St->Hp->Prop)->Prop
abbrev TGs:=List V->St->Hp->(St->Hp->Prop)->Prop
def PG (X:Cx) (target:Expr) (t:TG):Prop:=
 ∀(pins:List (Addr×Obj)) (s:Shared) (σ:St) (H:Hp) (v:V) (u:Value) (Q:St->Hp->Prop),Inv X pins σ H s->RelV v u->t v σ H Q->
  wpAny (model X.prog X.w) X.A (assign target X.env u) (fun _ s'=>∃σ' H',Inv X pins σ' H' s'/\Q σ' H') X.xe s
def PGs (X:Cx) (ts:List Expr) (t:TGs):Prop:=
 ∀(pins:List (Addr×Obj)) (s:Shared) (σ:St) (H:Hp) (vs:List V) (us:List Value) (Q:St->Hp->Prop),Inv X pins σ H s->Vals vs us->t vs σ H Q->
  wpAny (model X.prog X.w) X.A (assignInOrder ((assignEach ts X.env).map (·.2)) us) (fun _ s'=>∃σ' H',Inv X pins σ' H' s'/\Q σ' H') X.xe s
abbrev TSet:=V->V->V->Hp->(Hp->Prop)->Prop
def PSet (X:Cx) (t:TSet):Prop:=
 ∀(pins:List (Addr×Obj)) (s:Shared) (σ:St) (H:Hp) (o i v:V) (ov iv u:Value) (Q:Hp->Prop),Inv X pins σ H s->RelV o ov->RelV i iv->RelV v u->t o i v H Q->
  wpAny (model X.prog X.w) X.A (setItem ov iv u) (fun _ s'=>∃H',Inv X pins σ H' s'/\Q H') X.xe s
abbrev TIp:=V->V->Hp->VK->Prop
def PIp (X:Cx) (op:Operator) (t:TIp):Prop:=
 ∀(pins:List (Addr×Obj)) (s:Shared) (σ:St) (H:Hp) (x y:V) (v u:Value) (Q:VK),Inv X pins σ H s->RelV x v->RelV y u->t x y H Q->
  wpAny (model X.prog X.w) X.A (inplaceOp op v u) (EP X pins σ Q) X.xe s
section
variable {X:Cx} {pos:Pos}
def b69 (i:Nat):TG:=fun v σ H Q=>Q (σ.set i (some v)) H
theorem pg_name {i:Nat} {x:Str} (hN:X.N.Nodup) (hi:X.N[i]?=some x) (hx:Loc X.env.scope x) (hf:X.fn x=true\/X.env.scope.names.lookup x=some .local:=by first|exact .inl rfl|exact .inr rfl|assumption):PG X (.Name x pos) (b69 i):=by
 intro pins s σ H v u Q I r h
 exact wpAny_assign_Name (b3t I hN hi hx r (fun s' I'=>⟨_,H,I',h⟩) hf)
def gNil:TGs:=fun vs σ H Q=>vs=[]/\Q σ H
def gCons (t:TG) (u:TGs):TGs:=fun vs σ H Q=>∃v r,vs=v::r/\t v σ H fun σ' H'=>u r σ' H' Q
def gTup (K:Frag) (n:Nat) (t:TGs):TG:=fun v σ H Q=>∃a xs,v=.ref a/\SqT K H a xs/\xs.length=n/\t xs σ H Q
def gSub (to ti:TE) (t:TSet):TG:=fun v σ H Q=>to σ H fun o H1=>ti σ H1 fun i H2=>t o i v H2 fun H3=>Q σ H3
theorem pg_sub {o i:Expr} {to ti:TE} {t:TSet} (ho:PE X o to) (hi:PE X i ti) (hs:PSet X t)
  (ha:∀v,assign (.Subscript o i pos) X.env v=(do
   let ov ←holding [v] (eval o X.env)
   let iv ←holding [v,ov] (eval i X.env)
   standAt pos
   holding [v,ov,iv] (setItem ov iv v)
   release [v,ov,iv] []):=by intro _;rfl):PG X (.Subscript o i pos) (gSub to ti t):=by
 intro pins s σ H v u Q I r h
 rw [ha]
 refine wpAny_bind (wpAny_holding (thn (ho pins s σ H _ I h) fun ov s1 ⟨x,H1,I1,r1,q1⟩=>?_))
 refine wpAny_bind (wpAny_holding (thn (hi pins s1 σ H1 _ I1 q1) fun iv s2 ⟨y,H2,I2,r2,q2⟩=>?_))
 refine wpAny_bind (wpAny_standAt (wpAny_bind (wpAny_holding (thn (hs pins s2 σ H2 x y v ov iv u _ I2 r1 r2 r q2) fun _ s3 ⟨H3,I3,q3⟩=>?_))))
 exact wpAny_release ⟨σ,H3,I3,q3⟩
def tAsg (te:TE) (g:TG):TS:=fun D σ H=>te σ H fun x H1=>g x σ H1 D.nx
theorem ps_asg {tg e:Expr} {te:TE} {g:TG} (he:PE X e te) (hg:PG X tg g) (hs:swapsWithSole [tg] e pos.line X.env=pure false:=by rfl) (hw:swappedStores [tg] e X.env=pure none:=by rfl)
  (h1:(assignEach [tg] X.env).map (·.2)=[assign tg X.env]:=by rfl):PS X (.Assign [tg] e pos) (tAsg te g):=by
 intro pins s σ H D I h
 refine wpAny_Assign_stores (thn (he pins s σ H _ I h) fun v s1 ⟨x,H1,I1,r1,q1⟩=>?_) hs hw
 rw [h1]
 exact thn (hg pins s1 σ H1 x v _ I1 r1 q1) fun _ s2 q=>q
theorem ps_set {i:Nat} {x:Str} {e:Expr} {te:TE} {pos':Pos} (hN:X.N.Nodup) (hi:X.N[i]?=some x) (hx:Loc X.env.scope x) (he:PE X e te) (hs:swapsWith e (some (.Name x pos')) pos.line X.env=pure false:=by rfl) (hf:X.fn x=true\/X.env.scope.names.lookup x=some .local:=by first|exact .inl rfl|exact .inr rfl|assumption):
  PS X (.Assign [.Name x pos'] e pos) (tAsg te (b69 i)):=by
 intro pins s σ H D I h
 refine wpAny_Assign_Name (thn (he pins s σ H _ I h) fun v s1 ⟨y,H1,I1,r1,q1⟩=>?_) hs
 exact b3t I1 hN hi hx r1 (fun s2 I2=>⟨_,H1,I2,q1⟩) hf
def tPar (i j:Nat) (ta:TA):TS:=fun D σ H=>ta σ H fun vs H1=>∃v w,vs=[v,w]/\D.nx ((σ.set i (some v)).set j (some w)) H1
def tAug (i:Nat) (te:TE) (ti:TIp):TS:=fun D σ H=>∃x,σ[i]?=some (some x)/\te σ H fun y H1=>ti x y H1 fun z H2=>D.nx (σ.set i (some z)) H2
def tAugS (to ti te:TE) (tget:V->V->Hp->VK->Prop) (tip:TIp) (tset:TSet):TS:=fun D σ H=>to σ H fun o H1=>ti σ H1 fun i H2=>tget o i H2 fun x H3=>te σ H3 fun y H4=>tip x y H4 fun z H5=>tset o i z H5 fun H6=>D.nx σ H6
def PGet (X:Cx) (t:V->V->Hp->VK->Prop):Prop:=
 ∀(pins:List (Addr×Obj)) (s:Shared) (σ:St) (H:Hp) (o i:V) (ov iv:Value) (Q:VK),Inv X pins σ H s->RelV o ov->RelV i iv->t o i H Q->
  wpAny (model X.prog X.w) X.A (getItem ov iv) (EP X pins σ Q) X.xe s
def ipI (f:Int->Int->Int):TIp:=fun x y H Q=>∃i j,x=.int i/\y=.int j/\Q (.int (f i j)) H
end
section
variable {X:Cx} {pos:Pos}
def tWhile (c:TT) (tb:TS):TS:=fun D σ H=>∃W:Nat->St->Hp->Prop,(∃m,W m σ H)/\∀m σ H,W m σ H->
 c σ H fun b H1=>if b=true then ∃N:St->Hp->Prop,(∀σ' H',N σ' H'->∃m',m'<m/\W m' σ' H')/\tb { D with nx:=N,ct:=N,bk:=D.nx } σ H1 else D.nx σ H1
theorem ps_while {c:Expr} {body:List Stmt} {tc:TT} {tb:TS} (hp:PassesOwn (model X.prog X.w) X.A X.env X.xe) (hc:PT X c tc) (hb:PSs X body tb):PS X (.While c body [] pos) (tWhile tc tb):=by
 intro pins s σ H D I h
 obtain ⟨W,⟨m0,w0⟩,turn⟩:=h
 refine wpAny_While (codeAny_whileLoop (fun n s'=>∃σ' H',Inv X pins σ' H' s'/\W n σ' H') ?_ m0 ⟨σ,H,I,w0⟩)
 rintro n s1 ⟨σ1,H1,I1,w1⟩
 refine wpAny_passesOwn hp (thn (hc pins s1 σ1 H1 _ I1 (turn n σ1 H1 w1)) fun b s2 ⟨H2,I2,q2⟩=>?_)
 cases b with
 | true=>
  obtain ⟨N,hN,q2⟩:=q2
  rw [if_pos rfl]
  refine wpAny_passesOwn hp (thn (hb pins s2 σ1 H2 _ I2 q2) fun f s3 q3=>?_)
  cases f with
  | next=>
   obtain ⟨σ3,H3,I3,n3⟩:=q3
   obtain ⟨m',hm,w3⟩:=hN σ3 H3 n3
   exact ⟨m',hm,σ3,H3,I3,w3⟩
  | cont=>
   obtain ⟨σ3,H3,I3,n3⟩:=q3
   obtain ⟨m',hm,w3⟩:=hN σ3 H3 n3
   exact ⟨m',hm,σ3,H3,I3,w3⟩
  | brk=>exact q3
  | ret v=>exact q3
 | false=>
  rw [if_neg Bool.false_ne_true]
  exact wpAny_execs_nil ⟨σ1,H2,I2,q2⟩
end
structure It where
 go:Nat->Hp->Prop
 yld:Nat->Hp->V->Hp->Prop
 stop:Nat->Hp->Prop
def FpOk (X:Cx) (pins:List (Addr×Obj)) (H:Hp) (b:Addr):Prop:=
 H b=none/\b≠X.env.locals/\b∉X.fs/\(b∈X.ex\/X.s₀.heap.objs.size<=b)/\(∀x c,X.env.cells.lookup x=some c->c≠b)/\∀p∈X.pn++pins,p.1≠b
theorem Inv.fpOk {X:Cx} {pins:List (Addr×Obj)} {σ:St} {H H':Hp} {s:Shared} {b:Addr} (I:Inv X pins σ H s) (hb:s.heap.objs.size<=b) (hn:H' b=none):FpOk X pins H' b:=by
 refine ⟨hn,ne_of_gt (lt_of_lt_of_le I.lt hb),I.nofs hb,.inr (le_trans I.sz hb),fun x c e z=>?_,fun p hp z=>?_⟩
 ·obtain ⟨v,q⟩:=I.cell x c e
  exact absurd (lt_of_lt_of_le q.lt (by rw [z];exact hb)) (lt_irrefl _)
 ·exact absurd (lt_of_lt_of_le (lt_size (I.pin p hp).1) (by rw [z];exact hb)) (lt_irrefl _)
structure Turn (P:Program) (w:World) (K:Frag) (tg:Expr) (J:It) (fp:List Addr) (it:Addr) (tn:Nat->Heap->Prop):Prop where
 mem:it∈fp
 obj:∀i h,tn i h->∀b∈fp,∃o,h.get? b=some o/\∀v,o.data≠.cell v
 keep:∀i h h',tn i h->(∀b∈fp,∀o,h.get? b=some o->h'.get? b=some o)->tn i h'
 item:∀(X:Cx),X.prog=P->X.w=w->X.K=K->X.calm=true->∀(i:Nat) (pins:List (Addr×Obj)) (s:Shared) (σ:St) (H:Hp) (E:Value->Shared->Prop),Inv X pins σ H s->(∀b∈fp,FpOk X pins H b)->tn i s.heap->J.go i H->
  wpAny (model P w) X.A (pyNext (.ref it)) (fun r s1=>∃u,r=some u/\
   wpAny (model P w) X.A (letOwnedTupleGo tg (.ref it) u) (fun _ s2=>∃x H',Inv X pins σ H' s2/\RelV x u/\J.yld i H x H'/\tn (i+1) s2.heap/\∀b∈fp,H' b=none) E s1) E s
 done:∀(X:Cx),X.prog=P->X.w=w->X.K=K->X.calm=true->∀(i:Nat) (pins:List (Addr×Obj)) (s:Shared) (σ:St) (H:Hp) (E:Value->Shared->Prop),Inv X pins σ H s->(∀b∈fp,FpOk X pins H b)->tn i s.heap->J.stop i H->
  wpAny (model P w) X.A (pyNext (.ref it)) (fun r s1=>r=none/\Inv X pins σ H s1) E s
 self:∀(A:Around) (i:Nat) (s:Shared) (Q:Value->Shared->Prop) (E:Value->Shared->Prop),tn i s.heap->Q (.ref it) s->wpAny (model P w) A (pyIter (.ref it)) Q E s
abbrev TI:=St->Hp->(It->Hp->Prop)->Prop
def PIE (X:Cx) (pins:List (Addr×Obj)) (σ:St) (tg:Expr) (R:It->Hp->Prop) (itv:Value) (s2:Shared):Prop:=
 ∃(it:Addr) (fp:List Addr) (tn:Nat->Heap->Prop) (J:It) (H':Hp),itv=.ref it/\Inv X pins σ H' s2/\Turn X.prog X.w X.K tg J fp it tn/\tn 0 s2.heap/\(∀b∈fp,FpOk X pins H' b)/\R J H'
def PI (X:Cx) (tg iter:Expr) (wi:TI):Prop:=
 ∀(pins:List (Addr×Obj)) (s:Shared) (σ:St) (H:Hp) (R:It->Hp->Prop),Inv X pins σ H s->wi σ H R->
  wpAny (model X.prog X.w) X.A (eval iter X.env) (fun v s1=>wpAny (model X.prog X.w) X.A (pyIter v) (PIE X pins σ tg R) X.xe s1) X.xe s
theorem go_of {M:Model} {A:Around} {E:Value->Shared->Prop} {s:Shared} {tg:Expr} {it:Addr} {u:Value} {o:Obj} {n:String} {vs:Array Value} {Q:Unit->Shared->Prop} (ho:s.heap.get? it=some o) (hc:o.cls=.type n) (hd:o.data=.fields vs)
  (hn:["enumerate","zip","dict_itemiterator","dict_reverseitemiterator","odict_iterator","itertools.zip_longest","itertools.pairwise"].contains n=false) (hQ:Q () s):wpAny M A (letOwnedTupleGo tg (.ref it) u) Q E s:=by
 unfold letOwnedTupleGo
 cases tg <;> first
  | exact wpAny_pure hQ
  | (cases u <;> first
      | exact wpAny_pure hQ
      | (refine wpAny_bind (wpAny_load ho ?_)
         rw [hc,hd]
         show wpAny M A (if (["enumerate","zip","dict_itemiterator","dict_reverseitemiterator","odict_iterator","itertools.zip_longest","itertools.pairwise"].contains n && vs[0]? == some (rawInt _))=true then _ else _) Q E s
         rw [if_neg (by intro h;rw [hn,Bool.false_and] at h;cases h)]
         exact wpAny_pure hQ))
def Itl (K:Frag) (a:Addr):It:=
 ⟨fun i H=>∃xs x,SqL K H a xs/\xs[i]?=some x,fun i H x H'=>H'=H/\∀xs,SqL K H a xs->xs[i]?=some x,fun i H=>∃xs,SqL K H a xs/\xs.length<=i⟩
def Itt (K:Frag) (a:Addr):It:=
 ⟨fun i H=>∃xs x,SqT K H a xs/\xs[i]?=some x,fun i H x H'=>H'=H/\∀xs,SqT K H a xs->xs[i]?=some x,fun i H=>∃xs,SqT K H a xs/\xs.length<=i⟩
def Itr (lo:Int) (n:Nat):It:=⟨fun i _=>i<n,fun i H x H'=>H'=H/\x=.int (lo+i),fun i _=>n<=i⟩
theorem b5z {P:Program} {w:World} {K:Frag} {tg:Expr} (a it:Addr):Turn P w K tg (Itl K a) [it] it (fun i h=>h.IsListIter it a i) where
 mem:=by simp
 obj:=fun i h st b hb=>by
  have e:b=it:=by simpa using hb
  subst e
  obtain ⟨o,e,c,d⟩:=st
  exact ⟨o,e,fun v z=>by rw [d] at z;cases z⟩
 keep:=fun i h h' st k=>st.at fun o e=>k it (by simp) o e
 item:=by
  intro X hP hw hK hc i pins s σ H E I hf st hg
  subst hP hw hK
  obtain ⟨xs,x,hq,hx⟩:=hg
  obtain ⟨its,rv,p,hz⟩:=I.list hq
  obtain ⟨u,hu,ru⟩:=rv.get hx
  obtain ⟨f0,f1,f2,f3,f4,f5⟩:=hf it (by simp)
  refine wpAny_pyNext_list_item st p.isList (x:=u) (by simpa using hu) fun h' st' sb=>?_
  have I1:Inv X pins σ H { s with heap:=h' }:=I.turned (t':=s.toks) (fun b o hb e=>(sb.2 b hb).trans e) f0 f1 f3 f4 f5
  obtain ⟨o,e,c,d⟩:=id st'
  exact ⟨u,rfl,go_of (s:={ s with heap:=h' }) e c d (by decide) ⟨x,H,I1,ru,⟨rfl,fun ys hy=>by rw [I.list_inj hy hq];exact hx⟩,st',fun b hb=>(hf b hb).1⟩⟩
 done:=by
  intro X hP hw hK hc i pins s σ H E I hf st hg
  subst hP hw hK
  obtain ⟨xs,hq,hx⟩:=hg
  obtain ⟨its,rv,p,hz⟩:=I.list hq
  obtain ⟨f0,f1,f2,f3,f4,f5⟩:=hf it (by simp)
  have hl:=rv.length
  exact wpAny_pyNext_list_end (I.ok.hd hc) st p.isList (by simp;omega) fun h' eb=>⟨rfl,I.turned (t':=s.toks) (fun b o hb e=>eb b o hb e) f0 f1 f3 f4 f5⟩
 self:=fun _ _ _ _ _ st h=>wpAny_pyIter_listiter st h
theorem b4a {P:Program} {w:World} {K:Frag} {tg:Expr} (a it:Addr):Turn P w K tg (Itt K a) [it] it (fun i h=>h.IsTupleIter it a i) where
 mem:=by simp
 obj:=fun i h st b hb=>by
  have e:b=it:=by simpa using hb
  subst e
  obtain ⟨o,e,c,d⟩:=st
  exact ⟨o,e,fun v z=>by rw [d] at z;cases z⟩
 keep:=fun i h h' st k=>st.at fun o e=>k it (by simp) o e
 item:=by
  intro X hP hw hK hc i pins s σ H E I hf st hg
  subst hP hw hK
  obtain ⟨xs,x,hq,hx⟩:=hg
  obtain ⟨its,rv,p,hz⟩:=I.tuple hq
  obtain ⟨u,hu,ru⟩:=rv.get hx
  obtain ⟨f0,f1,f2,f3,f4,f5⟩:=hf it (by simp)
  refine wpAny_pyNext_tuple_item st (show s.heap.IsTuple a its.toArray from p) (x:=u) (by simpa using hu) fun h' st' sb=>?_
  have I1:Inv X pins σ H { s with heap:=h' }:=I.turned (t':=s.toks) (fun b o hb e=>(sb.2 b hb).trans e) f0 f1 f3 f4 f5
  obtain ⟨o,e,c,d⟩:=id st'
  exact ⟨u,rfl,go_of (s:={ s with heap:=h' }) e c d (by decide) ⟨x,H,I1,ru,⟨rfl,fun ys hy=>by rw [I.tuple_inj hy hq];exact hx⟩,st',fun b hb=>(hf b hb).1⟩⟩
 done:=by
  intro X hP hw hK hc i pins s σ H E I hf st hg
  subst hP hw hK
  obtain ⟨xs,hq,hx⟩:=hg
  obtain ⟨its,rv,p,hz⟩:=I.tuple hq
  obtain ⟨f0,f1,f2,f3,f4,f5⟩:=hf it (by simp)
  have hl:=rv.length
  exact wpAny_pyNext_tuple_end (I.ok.hd hc) st (show s.heap.IsTuple a its.toArray from p) (by simp;omega) fun h' eb=>⟨rfl,I.turned (t':=s.toks) (fun b o hb e=>eb b o hb e) f0 f1 f3 f4 f5⟩
 self:=fun _ _ _ _ _ st h=>wpAny_pyIter_tupleiter st h
theorem b4b {P:Program} {w:World} {K:Frag} {tg:Expr} (it:Addr) (lo:Int) (n:Nat):Turn P w K tg (Itr lo n) [it] it (fun i h=>IsRangeIter h it (lo+(i:Nat) * 1) ((n:Int) - (i:Nat)) 1) where
 mem:=by simp
 obj:=fun i h st b hb=>by
  have e:b=it:=by simpa using hb
  subst e
  exact ⟨_,st,fun v z=>by
   have z':Data.fields _=Data.cell v:=z
   cases z'⟩
 keep:=fun i h h' st k=>k it (by simp) _ st
 item:=by
  intro X hP hw hK hc i pins s σ H E I hf st hg
  subst hP hw hK
  obtain ⟨f0,f1,f2,f3,f4,f5⟩:=hf it (by simp)
  have W:=Walks.range (prog:=X.prog) (w:=X.w) (I.ok.hd hc) it lo 1 n
  refine W.item i s _ _ hg st fun v h' tk hv st' kk=>?_
  obtain ⟨t,rfl⟩:=hv
  have I1:Inv X pins σ H { s with heap:=h',toks:=tk }:=I.turned (fun b o hb e=>kk b o (by simpa using hb) e) f0 f1 f3 f4 f5
  refine ⟨_,rfl,go_of (s:={ s with heap:=h',toks:=tk }) (n := "range_iterator") st' rfl rfl (by decide) ⟨.int (lo+i),H,I1,⟨t,?_⟩,⟨rfl,rfl⟩,st',fun b hb=>(hf b hb).1⟩⟩
  rw [Int.mul_one]
 done:=by
  intro X hP hw hK hc i pins s σ H E I hf st hg
  subst hP hw hK
  obtain ⟨f0,f1,f2,f3,f4,f5⟩:=hf it (by simp)
  exact wpAny_pyNext_range_end (I.ok.hd hc) st (by have:n<=i:=hg;omega) fun h' eb=>⟨rfl,I.turned (t':=s.toks) (fun b o hb e=>eb b o hb e) f0 f1 f3 f4 f5⟩
 self:=fun _ _ _ _ _ st h=>wpAny_pyIter_rangeiter st h
section
variable {X:Cx} {tg:Expr}
def iList (K:Frag) (tl:TE):TI:=fun σ H R=>tl σ H fun x H1=>∃a,x=.ref a/\(∃xs,SqL K H1 a xs)/\R (Itl K a) H1
def iTup (K:Frag) (tl:TE):TI:=fun σ H R=>tl σ H fun x H1=>∃a,x=.ref a/\(∃xs,SqT K H1 a xs)/\R (Itt K a) H1
theorem b3A {pins:List (Addr×Obj)} {σ:St} {H:Hp} {s:Shared} {R:It->Hp->Prop} {E:Value->Shared->Prop} {lo hi:Int} {t u v:Tok} {tk:Nat} (I:Inv X pins σ H s) (h1:-(2 ^ 62)<=lo) (h2:lo<2 ^ 62) (h3:-(2 ^ 62)<=hi) (h4:hi<2 ^ 62)
  (q:R (Itr lo (hi - lo).toNat) H):wpAny (model X.prog X.w) X.A (pyIter (.ref s.heap.objs.size)) (PIE X pins σ tg R) E { s with heap:=s.heap.push { cls:=.type "range",data:=.fields #[.int lo t,.int hi u,.int 1 v] },toks:=tk }:=by
 refine wpAny_pyIter_range (IsRange.new ..) (small_one h1 h2 h3 h4) ?_
 have I1:Inv X pins σ H { s with heap:=s.heap.push { cls:=.type "range",data:=.fields #[.int lo t,.int hi u,.int 1 v] },toks:=tk }:=I.kept fun b o e=>get?_push_of_some _ e
 refine ⟨(s.heap.push { cls:=.type "range",data:=.fields #[.int lo t,.int hi u,.int 1 v] }).objs.size,[(s.heap.push { cls:=.type "range",data:=.fields #[.int lo t,.int hi u,.int 1 v] }).objs.size],_,_,H,rfl,
  I1.kept (t':=tk) fun b o e=>get?_push_of_some _ e,b4b _ lo (hi - lo).toNat,?_,fun b hb=>?_,q⟩
 ·have e1:lo+((0:Nat):Int) * 1=lo:=by simp
  have e2:(((hi - lo).toNat:Nat):Int) - ((0:Nat):Int)=Builtin.Range.rangeSize lo hi 1:=by rw [rangeSize_one];split <;> omega
  show IsRangeIter _ _ (lo+((0:Nat):Int) * 1) ((((hi - lo).toNat:Nat):Int) - ((0:Nat):Int)) 1
  rw [e1,e2]
  exact get?_push_size _ rfl
 ·have e:b=(s.heap.push { cls:=.type "range",data:=.fields #[.int lo t,.int hi u,.int 1 v] }).objs.size:=by simpa using hb
  subst e
  exact I1.fpOk (le_refl _) (I1.hok.fresh (le_refl _))
def iRng1 (ta:TA):TI:=fun σ H R=>ta σ H fun vs H1=>∃j:Int,vs=[.int j]/\-(2 ^ 62)<=j/\j<2 ^ 62/\R (Itr 0 j.toNat) H1
def iRng2 (ta:TA):TI:=fun σ H R=>ta σ H fun vs H1=>∃i j:Int,vs=[.int i,.int j]/\(-(2 ^ 62)<=i/\i<2 ^ 62/\-(2 ^ 62)<=j/\j<2 ^ 62)/\R (Itr i (j - i).toNat) H1
theorem b6n {a:Expr} {ta:TA} {p pos:Pos} (hg:Gl X "range") (hm:X.mg "range" = none) (ha:PA X [a] ta) (hs:starEach [a] X.env=[(false,eval a X.env)]:=by rfl):PI X tg (.Call (.Name "range" p) [a] [] pos) (iRng1 ta):=by
 intro pins s σ H R I h
 refine Call_ (a84 I hg hm boot_range (PyProof.Rows.callWith_type1 (thn (ha pos pins s σ H _ I h) fun us s1 ⟨vs,H1,I1,r1,q1⟩=>?_) hs rfl))
 obtain ⟨j,e,q1,q2,q⟩:=q1
 subst e
 cases r1 with
 | cons r rr=>
  cases rr
  obtain ⟨t,rfl⟩:=r
  exact call_range_1 (b3A I1 (by omega) (by omega) q1 q2 (by simpa using q))
theorem b6m {a b:Expr} {ta:TA} {p pos:Pos} (hg:Gl X "range") (hm:X.mg "range" = none) (ha:PA X [a,b] ta) (hs:starEach [a,b] X.env=[(false,eval a X.env),(false,eval b X.env)]:=by rfl) (hs2:starEach [b] X.env=[(false,eval b X.env)]:=by rfl):
  PI X tg (.Call (.Name "range" p) [a,b] [] pos) (iRng2 ta):=by
 intro pins s σ H R I h
 refine Call_ (a84 I hg hm boot_range (PyProof.Rows.callWith_type1 (thn (ha pos pins s σ H _ I h) fun us s1 ⟨vs,H1,I1,r1,q1⟩=>?_) (by rw [hs,hs2]) (by rw [hs2];rfl)))
 obtain ⟨i,j,e,⟨q1,q2,q3,q4⟩,q⟩:=q1
 subst e
 cases r1 with
 | cons r rr=>
  cases rr with
  | cons r' rr=>
   cases rr
   obtain ⟨t,rfl⟩:=r
   obtain ⟨t',rfl⟩:=r'
   exact call_range_2 (b3A I1 q1 q2 q3 q4 q)
def tFor (wi:TI) (g:TG) (tb:TS):TS:=fun D σ H=>wi σ H fun J H1=>∃W:Nat->Nat->St->Hp->Prop,(∃m,W 0 m σ H1)/\∀i m σ H,W i m σ H->
 (J.stop i H/\D.nx σ H)\/(J.go i H/\∃N:St->Hp->Prop,(∀σ' H',N σ' H'->∃m',m'<m/\W (i+1) m' σ' H')/\∀x H',J.yld i H x H'->g x σ H' fun σ2 H2=>tb { D with nx:=N,ct:=N,bk:=D.nx } σ2 H2)
def b1i (fp:List Addr) (h:Heap):List (Addr×Obj):=fp.filterMap fun b=>(h.get? b).map fun o=>(b,o)
theorem a5B {fp:List Addr} {h:Heap} {b:Addr} {o:Obj} (hb:b∈fp) (e:h.get? b=some o):(b,o)∈b1i fp h:=List.mem_filterMap.mpr ⟨b,hb,by rw [e];rfl⟩
theorem b6z {fp:List Addr} {h:Heap} {p:Addr×Obj} (hp:p∈b1i fp h):p.1∈fp/\h.get? p.1=some p.2:=by
 obtain ⟨b,hb,e⟩:=List.mem_filterMap.mp hp
 cases q:h.get? b with
 | none=>rw [q] at e;cases e
 | some o=>
  rw [q] at e
  have e':(b,o)=p:=Option.some.inj e
  subst e'
  exact ⟨hb,q⟩
theorem Inv.pinned {pins:List (Addr×Obj)} {σ:St} {H:Hp} {s:Shared} {fp:List Addr} (I:Inv X pins σ H s) (hf:∀b∈fp,FpOk X pins H b) (ho:∀b∈fp,∃o,s.heap.get? b=some o/\∀v,o.data≠.cell v):Inv X (pins++b1i fp s.heap) σ H s:=
 I.pins_of fun p hp=>(mem_append.mp hp).elim (fun z=>I.pin p (mem_append_right _ z)) fun z=>by
  obtain ⟨hb,e⟩:=b6z z
  obtain ⟨f0,f1,f2,_⟩:=hf p.1 hb
  obtain ⟨o,e',d⟩:=ho p.1 hb
  rw [e] at e';cases e'
  exact ⟨e,f0,f1,f2,d⟩
theorem Inv.unpinned {pins pl:List (Addr×Obj)} {σ:St} {H:Hp} {s:Shared} (I:Inv X (pins++pl) σ H s):Inv X pins σ H s:=I.pins_of fun p hp=>I.pin p (mem_append_right _ (List.mem_append_left _ hp))
theorem ps_for {iter:Expr} {body:List Stmt} {wi:TI} {g:TG} {tb:TS} {pos:Pos} (hp:PassesOwn (model X.prog X.w) X.A X.env X.xe) (hc:X.calm=true) (hi:PI X tg iter wi) (hg:PG X tg g) (hb:PSs X body tb)
  (hs:∀x,foldedSetIterable iter X.env x=pure x:=by intro _;rfl):PS X (.For tg iter body [] pos) (tFor wi g tb):=by
 intro pins s σ H D I h
 refine wpAny_For (thn (hi pins s σ H _ I h) fun v s1 h1=>thn h1 fun itv s2 h2=>?_) hs
 obtain ⟨it,fp,tn,J,H2,e,I2,T,st2,f2,W,⟨m0,w0⟩,turn⟩:=h2
 subst e
 have stat:∀{H':Hp},(∀b∈fp,H' b=none)->∀b∈fp,FpOk X pins H' b:=fun hn b hb=>⟨hn b hb,(f2 b hb).2⟩
 refine codeAny_forLoop_any (fun n s'=>∃i σ' H',Inv X pins σ' H' s'/\tn i s'.heap/\(∀b∈fp,H' b=none)/\W i n σ' H') ?_ m0 ⟨0,σ,H2,I2,st2,fun b hb=>(f2 b hb).1,w0⟩
 rintro n s3 ⟨i,σ3,H3,I3,st3,fr3,w3⟩
 rcases turn i n σ3 H3 w3 with ⟨stop,qn⟩|⟨go,N,hN,step⟩
 ·refine wpAny_passesOwn hp (thn (T.done X rfl rfl rfl hc i pins s3 σ3 H3 X.xe I3 (stat fr3) st3 stop) fun r s4 ⟨hr,I4⟩=>?_)
  subst hr
  exact wpAny_execs_nil ⟨σ3,H3,I4,qn⟩
 ·refine wpAny_passesOwn hp (thn (T.item X rfl rfl rfl hc i pins s3 σ3 H3 X.xe I3 (stat fr3) st3 go) fun r s4 ⟨u,hr,h4⟩=>?_)
  subst hr
  refine wpAny_passesOwn hp (thn h4 fun _ s5 ⟨x,H5,I5,r5,y5,st5,fr5⟩=>?_)
  have I5':=I5.pinned (stat fr5) (T.obj _ _ st5)
  refine wpAny_passesOwn hp (thn (hg _ s5 σ3 H5 x u _ I5' r5 (step x H5 y5)) fun _ s6 ⟨σ6,H6,I6,q6⟩=>?_)
  refine wpAny_passesOwn hp (thn (hb _ s6 σ6 H6 _ I6 q6) fun f s7 q7=>?_)
  have again:∀{σ7:St} {H7:Hp},Inv X (pins++b1i fp s5.heap) σ7 H7 s7->N σ7 H7->∃m,m<n/\∃i σ' H',Inv X pins σ' H' s7/\tn i s7.heap/\(∀b∈fp,H' b=none)/\W i m σ' H':=fun {σ7 H7} I7 n7=>by
   obtain ⟨m',hm,w7⟩:=hN σ7 H7 n7
   refine ⟨m',hm,i+1,σ7,H7,I7.unpinned,T.keep _ _ _ st5 fun b hb o e=>(I7.pin (b,o) (mem_append_right _ (mem_append_right _ (a5B hb e)))).1,fun b hb=>?_,w7⟩
   obtain ⟨o,e,d⟩:=T.obj _ _ st5 b hb
   exact (I7.pin (b,o) (mem_append_right _ (mem_append_right _ (a5B hb e)))).2.1
  cases f with
  | next=>obtain ⟨σ7,H7,I7,n7⟩:=q7;exact again I7 n7
  | cont=>obtain ⟨σ7,H7,I7,n7⟩:=q7;exact again I7 n7
  | brk=>obtain ⟨σ7,H7,I7,q7⟩:=q7;exact ⟨σ7,H7,I7.unpinned,q7⟩
  | ret v=>obtain ⟨x7,σ7,H7,I7,r7,q7⟩:=q7;exact ⟨x7,σ7,H7,I7.unpinned,r7,q7⟩
end
abbrev R2:=V->V->Hp->VK->Prop
def OpR (X:Cx) (f:Value->Value->Sem Value) (r:R2):Prop:=
 ∀(pins:List (Addr×Obj)) (s:Shared) (σ:St) (H:Hp) (x y:V) (v u:Value) (Q:VK),Inv X pins σ H s->RelV x v->RelV y u->r x y H Q->
  wpAny (model X.prog X.w) X.A (f v u) (EP X pins σ Q) X.xe s
def UnR (X:Cx) (f:Value->Sem Value) (r:V->Hp->VK->Prop):Prop:=
 ∀(pins:List (Addr×Obj)) (s:Shared) (σ:St) (H:Hp) (x:V) (v:Value) (Q:VK),Inv X pins σ H s->RelV x v->r x H Q->
  wpAny (model X.prog X.w) X.A (f v) (EP X pins σ Q) X.xe s
def a2M (X:Cx) (f:Value) (r:List V->Hp->VK->Prop):Prop:=
 ∀(pins:List (Addr×Obj)) (s:Shared) (σ:St) (H:Hp) (xs:List V) (us:List Value) (Q:VK),Inv X pins σ H s->Vals xs us->r xs H Q->
  wpAny (model X.prog X.w) X.A (call f us) (EP X pins σ Q) X.xe s
def TruR (X:Cx) (r:V->Hp->(Bool->Hp->Prop)->Prop):Prop:=
 ∀(pins:List (Addr×Obj)) (s:Shared) (σ:St) (H:Hp) (x:V) (v:Value) (Q:Bool->Hp->Prop),Inv X pins σ H s->RelV x v->r x H Q->
  wpAny (model X.prog X.w) X.A (truthy v) (TP X pins σ Q) X.xe s
def tOp (r:R2) (ta tb:TE):TE:=fun σ H Q=>ta σ H fun x H1=>tb σ H1 fun y H2=>r x y H2 Q
def tUn (r:V->Hp->VK->Prop) (ta:TE):TE:=fun σ H Q=>ta σ H fun x H1=>r x H1 Q
def rI (C:Int->Int->Prop) (g:Int->Int->V):R2:=fun x y H Q=>∃i j,x=.int i/\y=.int j/\C i j/\Q (g i j) H
def rI0 (g:Int->Int->V):R2:=fun x y H Q=>∃i j,x=.int i/\y=.int j/\Q (g i j) H
def rU (g:Int->V):V->Hp->VK->Prop:=fun x H Q=>∃i,x=.int i/\Q (g i) H
section
variable {X:Cx} {a b c:Expr} {ta tb tc:TE} {pos:Pos}
theorem binT (ha:PE X a ta) (hb:PE X b tb) {pins:List (Addr×Obj)} {s:Shared} {σ:St} {H:Hp} {R:V->V->Hp->Prop} (I:Inv X pins σ H s)
  (h:ta σ H fun x H1=>tb σ H1 fun y H2=>R x y H2) {Q:Value->Shared->Prop} {f:Value->Value->Sem Value}
  (hf:∀v u s2 x y H2,Inv X pins σ H2 s2->RelV x v->RelV y u->R x y H2->wpAny (model X.prog X.w) X.A (f v u) Q X.xe s2):
  wpAny (model X.prog X.w) X.A (eval a X.env) (fun v s₁=>wpAny (model X.prog X.w) X.A (eval b X.env) (fun u s₂=>wpAny (model X.prog X.w) X.A (f v u) Q X.xe s₂) X.xe s₁) X.xe s:=by
 refine thn (ha pins s σ H _ I h) fun v s1 ⟨x,H1,I1,r1,q1⟩=>?_
 refine thn (hb pins s1 σ H1 _ I1 q1) fun u s2 ⟨y,H2,I2,r2,q2⟩=>?_
 exact hf v u s2 x y H2 I2 r1 r2 q2
theorem pe_op {op:Operator} {r:R2} (ho:OpR X (binaryOp op) r) (ha:PE X a ta) (hb:PE X b tb):PE X (.BinOp a op b pos) (tOp r ta tb):=by
 intro pins s σ H Q I h
 exact wpAny_BinOp (binT ha hb I h fun v u s2 x y H2 I2 rx ry q=>ho pins s2 σ H2 x y v u Q I2 rx ry q)
theorem pe_un {op:UnaryOp} {r:V->Hp->VK->Prop} (ho:UnR X (unaryOp op) r) (ha:PE X a ta):PE X (.UnaryOp op a pos) (tUn r ta):=by
 intro pins s σ H Q I h
 exact UnaryOp_ (thn (ha pins s σ H _ I h) fun v s1 ⟨x,H1,I1,r1,q1⟩=>ho pins s1 σ H1 x v Q I1 r1 q1)
theorem opI {f:Value->Value->Sem Value} {C:Int->Int->Prop} {g:Int->Int->Int}
  (rule:∀(i j:Int) (t u:Tok) (s:Shared) (Q:Value->Shared->Prop) (E:Value->Shared->Prop),C i j->Q (.int (g i j) s.toks) { s with toks:=s.toks+1 }->wpAny (model X.prog X.w) X.A (f (.int i t) (.int j u)) Q E s):
  OpR X f (rI C fun i j=>.int (g i j)):=by
 intro pins s σ H x y v u Q I rx ry h
 obtain ⟨i,j,rfl,rfl,hc,q⟩:=h
 obtain ⟨t,rfl⟩:=rx
 obtain ⟨t',rfl⟩:=ry
 exact rule i j t t' s _ _ hc ⟨.int (g i j),H,I.tok _,⟨_,rfl⟩,q⟩
theorem opI0 {f:Value->Value->Sem Value} {g:Int->Int->Int}
  (rule:∀(i j:Int) (t u:Tok) (s:Shared) (Q:Value->Shared->Prop) (E:Value->Shared->Prop),Q (.int (g i j) s.toks) { s with toks:=s.toks+1 }->wpAny (model X.prog X.w) X.A (f (.int i t) (.int j u)) Q E s):
  OpR X f (rI0 fun i j=>.int (g i j)):=by
 intro pins s σ H x y v u Q I rx ry h
 obtain ⟨i,j,rfl,rfl,q⟩:=h
 obtain ⟨t,rfl⟩:=rx
 obtain ⟨t',rfl⟩:=ry
 exact rule i j t t' s _ _ ⟨.int (g i j),H,I.tok _,⟨_,rfl⟩,q⟩
theorem opB0 {f:Value->Value->Sem Value} {g:Int->Int->Bool}
  (rule:∀(i j:Int) (t u:Tok) (s:Shared) (Q:Value->Shared->Prop) (E:Value->Shared->Prop),Q (.bool (g i j)) s->wpAny (model X.prog X.w) X.A (f (.int i t) (.int j u)) Q E s):
  OpR X f (rI0 fun i j=>.bl (g i j)):=by
 intro pins s σ H x y v u Q I rx ry h
 obtain ⟨i,j,rfl,rfl,q⟩:=h
 obtain ⟨t,rfl⟩:=rx
 obtain ⟨t',rfl⟩:=ry
 exact rule i j t t' s _ _ ⟨.bl (g i j),H,I,rfl,q⟩
def CDiv (i j:Int):Prop:=0<j/\j<1073741824
def CDivN (i j:Int):Prop:=j≠0/\j.natAbs<1073741824
def CPow (i j:Int):Prop:=0<=j/\j<=1000000/\i.natAbs<2 ^ 64
def CMul (i j:Int):Prop:=(-(2 ^ 64)<i/\i<2 ^ 64)\/(-(2 ^ 64)<j/\j<2 ^ 64)
theorem CMul.ok {i j:Int} (h:CMul i j):IntMulOk i j:=by
 rcases h with ⟨h1,h2⟩|⟨h1,h2⟩
 ·exact .of_left (intBits_le_64 h1 h2)
 ·exact .of_right (intBits_le_64 h1 h2)
theorem op_add:OpR X (binaryOp .Add) (rI0 fun i j=>.int (i+j)):=opI0 fun _ _ _ _ _ _ _ q=>add_int q
theorem op_sub:OpR X (binaryOp .Sub) (rI0 fun i j=>.int (i - j)):=opI0 fun _ _ _ _ _ _ _ q=>sub_int q
theorem op_mul:OpR X (binaryOp .Mult) (rI CMul fun i j=>.int (i * j)):=opI fun _ _ _ _ _ _ _ hc q=>mul_int q hc.ok
theorem op_fdiv:OpR X (binaryOp .FloorDiv) (rI CDiv fun i j=>.int (i / j)):=opI fun i j _ _ _ _ _ hc q=>by
 have h1:(0:Int)<j:=hc.1
 have h2:j<1073741824:=hc.2
 exact floordiv_int (by omega) (by rw [Int.fdiv_eq_ediv_of_nonneg i (by omega)];exact q) (.inl (PyProof.noPylong_small (by omega)))
theorem op_mod:OpR X (binaryOp .Mod) (rI (fun _ j=>0<j) fun i j=>.int (i % j)):=opI fun i j _ _ _ _ _ hc q=>by
 have h1:(0:Int)<j:=hc
 exact mod_int' (by omega) (by rw [Int.fmod_eq_emod_of_nonneg i (by omega)];exact q)
theorem op_pow:OpR X (binaryOp .Pow) (rI CPow fun i j=>.int (i ^ j.toNat)):=opI fun _ _ _ _ _ _ _ hc q=>pow_int_small hc.1 hc.2.1 hc.2.2 q
theorem op_shl:OpR X (binaryOp .LShift) (rI CPow fun i j=>.int (i * 2 ^ j.toNat)):=opI fun _ _ _ _ _ _ _ hc q=>lshift_int_small hc.1 hc.2.1 hc.2.2 q
theorem unI {f:Value->Sem Value} {g:Int->Int}
  (rule:∀(i:Int) (t:Tok) (s:Shared) (Q:Value->Shared->Prop) (E:Value->Shared->Prop),Q (.int (g i) s.toks) { s with toks:=s.toks+1 }->wpAny (model X.prog X.w) X.A (f (.int i t)) Q E s):
  UnR X f (rU fun i=>.int (g i)):=by
 intro pins s σ H x v Q I rx h
 obtain ⟨i,rfl,q⟩:=h
 obtain ⟨t,rfl⟩:=rx
 exact rule i t s _ _ ⟨.int (g i),H,I.tok _,⟨_,rfl⟩,q⟩
theorem un_neg:UnR X (unaryOp .USub) (rU fun i=>.int (-i)):=unI fun _ _ _ _ _ q=>neg_int q
end
def scal:V->V->Bool
 | .non,.non=>true|.non,.int _=>true|.int _,.non=>true|.non,.bl _=>true|.bl _,.non=>true|.non,.str _=>true|.str _,.non=>true
 | .int _,.int _=>true|.bl _,.bl _=>true|.str _,.str _=>true|.byt _,.byt _=>true
 | .int _,.str _=>true|.str _,.int _=>true|.bl _,.str _=>true|.str _,.bl _=>true
 | _,_=>false
def rEq:R2:=fun x y H Q=>scal x y=true/\Q (.bl (decide (x=y))) H
def rNe:R2:=fun x y H Q=>scal x y=true/\Q (.bl (!decide (x=y))) H
theorem b7g {i j:Int}:decide (V.int i=V.int j)=(i == j):=by
 rw [Bool.eq_iff_iff]
 simp
theorem dec_bl {i j:Bool}:decide (V.bl i=V.bl j)=(i == j):=by
 rw [Bool.eq_iff_iff]
 simp
theorem b7f {i j:Str}:decide (V.str i=V.str j)=(i == j):=by
 rw [Bool.eq_iff_iff]
 simp
theorem b7h {i j:Array UInt8}:decide (V.byt i=V.byt j)=(i.toList == j.toList):=by
 rw [Bool.eq_iff_iff]
 cases i
 cases j
 simp
section
variable {X:Cx} {a b c:Expr} {ta tb tc:TE} {pos:Pos}
theorem a1h {pins:List (Addr×Obj)} {σ:St} {H:Hp} {s:Shared} {Q:VK} {k k':Bool} (I:Inv X pins σ H s) (q:Q (.bl k) H) (e:k=k'):EP X pins σ Q (.bool k') s:=by
 subst e
 exact ⟨.bl k,H,I,rfl,q⟩
theorem op_eq:OpR X (compareOp .Eq) rEq:=by
 intro pins s σ H x y v u Q I rx ry h
 obtain ⟨hs,q⟩:=h
 cases x with
 | non=>
  cases rx
  cases y with
  | non=>cases ry;exact PySem.EqNone.eq_none_none (a1h I q (by simp))
  | bl j=>cases ry;exact PySem.EqNone.eq_none_bool (a1h I q (by simp))
  | int j=>obtain ⟨t',rfl⟩:=ry;exact PySem.EqNone.eq_none_int (a1h I q (by simp))
  | str j=>obtain ⟨t',rfl⟩:=ry;exact PySem.EqNone.eq_none_str (a1h I q (by simp))
  | _=>exact absurd (show false=true from hs) Bool.false_ne_true
 | bl i=>
  cases rx
  cases y with
  | non=>cases ry;exact PySem.EqNone.eq_bool_none (a1h I q (by simp))
  | bl j=>cases ry;exact eq_bool (a1h I q dec_bl)
  | str j=>obtain ⟨t',rfl⟩:=ry;exact PySem.EqMixed.eq_bool_str (a1h I q (by simp))
  | _=>exact absurd (show false=true from hs) Bool.false_ne_true
 | int i=>
  obtain ⟨t,rfl⟩:=rx
  cases y with
  | non=>cases ry;exact PySem.EqNone.eq_int_none (a1h I q (by simp))
  | int j=>obtain ⟨t',rfl⟩:=ry;exact eq_int (a1h I q b7g)
  | str j=>obtain ⟨t',rfl⟩:=ry;exact PySem.EqMixed.eq_int_str (a1h I q (by simp))
  | _=>exact absurd (show false=true from hs) Bool.false_ne_true
 | str i=>
  obtain ⟨t,rfl⟩:=rx
  cases y with
  | non=>cases ry;exact PySem.EqNone.eq_str_none (a1h I q (by simp))
  | bl j=>cases ry;exact PySem.EqMixed.eq_str_bool (a1h I q (by simp))
  | int j=>obtain ⟨t',rfl⟩:=ry;exact PySem.EqMixed.eq_str_int (a1h I q (by simp))
  | str j=>obtain ⟨t',rfl⟩:=ry;exact eq_str (a1h I q b7f)
  | _=>exact absurd (show false=true from hs) Bool.false_ne_true
 | byt i=>
  obtain ⟨t,rfl⟩:=rx
  cases y with
  | byt j=>obtain ⟨t',rfl⟩:=ry;exact PySem.W.eq_bytes (a1h I q b7h)
  | _=>exact absurd (show false=true from hs) Bool.false_ne_true
 | _=>cases y <;> exact absurd (show false=true from hs) Bool.false_ne_true
theorem op_ne:OpR X (compareOp .NotEq) rNe:=by
 intro pins s σ H x y v u Q I rx ry h
 obtain ⟨hs,q⟩:=h
 cases x with
 | non=>
  cases rx
  cases y with
  | non=>cases ry;exact PySem.EqNone.ne_none_none (a1h I q (by simp))
  | bl j=>cases ry;exact PySem.EqNone.ne_none_bool (a1h I q (by simp))
  | int j=>obtain ⟨t',rfl⟩:=ry;exact PySem.EqNone.ne_none_int (a1h I q (by simp))
  | str j=>obtain ⟨t',rfl⟩:=ry;exact PySem.EqNone.ne_none_str (a1h I q (by simp))
  | _=>exact absurd (show false=true from hs) Bool.false_ne_true
 | bl i=>
  cases rx
  cases y with
  | non=>cases ry;exact PySem.EqNone.ne_bool_none (a1h I q (by simp))
  | bl j=>cases ry;exact ne_bool (a1h I q (congrArg not dec_bl))
  | str j=>obtain ⟨t',rfl⟩:=ry;exact PySem.EqMixed.ne_bool_str (a1h I q (by simp))
  | _=>exact absurd (show false=true from hs) Bool.false_ne_true
 | int i=>
  obtain ⟨t,rfl⟩:=rx
  cases y with
  | non=>cases ry;exact PySem.EqNone.ne_int_none (a1h I q (by simp))
  | int j=>obtain ⟨t',rfl⟩:=ry;exact ne_int (a1h I q (congrArg not b7g))
  | str j=>obtain ⟨t',rfl⟩:=ry;exact PySem.EqMixed.ne_int_str (a1h I q (by simp))
  | _=>exact absurd (show false=true from hs) Bool.false_ne_true
 | str i=>
  obtain ⟨t,rfl⟩:=rx
  cases y with
  | non=>cases ry;exact PySem.EqNone.ne_str_none (a1h I q (by simp))
  | bl j=>cases ry;exact PySem.EqMixed.ne_str_bool (a1h I q (by simp))
  | int j=>obtain ⟨t',rfl⟩:=ry;exact PySem.EqMixed.ne_str_int (a1h I q (by simp))
  | str j=>obtain ⟨t',rfl⟩:=ry;exact ne_str (a1h I q (congrArg not b7f))
  | _=>exact absurd (show false=true from hs) Bool.false_ne_true
 | byt i=>
  obtain ⟨t,rfl⟩:=rx
  cases y with
  | byt j=>obtain ⟨t',rfl⟩:=ry;exact PySem.W.ne_bytes (a1h I q (congrArg not b7h))
  | _=>exact absurd (show false=true from hs) Bool.false_ne_true
 | _=>cases y <;> exact absurd (show false=true from hs) Bool.false_ne_true
theorem op_lt:OpR X (compareOp .Lt) (rI0 fun i j=>.bl (decide (i<j))):=opB0 fun _ _ _ _ _ _ _ q=>lt_int q
theorem op_le:OpR X (compareOp .LtE) (rI0 fun i j=>.bl (decide (i<=j))):=opB0 fun _ _ _ _ _ _ _ q=>le_int q
theorem op_gt:OpR X (compareOp .Gt) (rI0 fun i j=>.bl (decide (j<i))):=opB0 fun _ _ _ _ _ _ _ q=>gt_int q
def isObj:HO->Bool
 | .lst _=>true
 | .ins _ _ _=>true
 | _=>false
theorem OpR.or {f:Value->Value->Sem Value} {r r':R2} (h:OpR X f r) (h':OpR X f r'):OpR X f (fun x y H Q=>r x y H Q\/r' x y H Q):=by
 intro pins s σ H x y v u Q I rx ry q
 rcases q with q|q
 ·exact h pins s σ H x y v u Q I rx ry q
 ·exact h' pins s σ H x y v u Q I rx ry q
theorem nomark (b:Expr) {op:CmpOp} (h:op≠.In:=by decide) (h2:op≠.NotIn:=by decide):behindInMarks op b=false:=by
 have e1:(op == CmpOp.In)=false:=by cases op <;> first|rfl|exact absurd rfl h
 have e2:(op == CmpOp.NotIn)=false:=by cases op <;> first|rfl|exact absurd rfl h2
 cases b <;> simp [behindInMarks,e1,e2]
theorem pe_cmpR {op:CmpOp} {r:R2} (ho:OpR X (compareOp op) r) (ha:PE X a ta) (hb:PE X b tb) (hm:behindInMarks op b=false):PE X (.Compare a [op] [b] pos) (tOp r ta tb):=by
 intro pins s σ H Q I h
 exact wpAny_Compare1 (binT ha hb I h fun v u s2 x y H2 I2 rx ry q=>ho pins s2 σ H2 x y v u Q I2 rx ry q) hm
def tTest (t:TE):TT:=fun σ H Q=>t σ H fun x H'=>∃k,x=.bl k/\Q k H'
theorem pt_cmpR {op:CmpOp} {r:R2} (ho:OpR X (compareOp op) r) (ha:PE X a ta) (hb:PE X b tb) (hm:behindInMarks op b=false):PT X (.Compare a [op] [b] pos) (tTest (tOp r ta tb)):=by
 intro pins s σ H Q I h
 refine wpAny_isTrue_Compare1 (thn (ha pins s σ H _ I h) fun v s1 ⟨x,H1,I1,r1,q1⟩=>thn (hb pins s1 σ H1 _ I1 q1) fun u s2 ⟨y,H2,I2,r2,q2⟩=>
  thn (ho pins s2 σ H2 x y v u _ I2 r1 r2 q2) fun c s3 ⟨z,H3,I3,r3,k,e,q3⟩=>?_) hm
 subst e
 cases r3
 exact wpAny_truthy_bool ⟨H3,I3,q3⟩
def tChain (r r':R2) (ta tb tc:TE):TE:=fun σ H Q=>ta σ H fun x H1=>tb σ H1 fun y H2=>r x y H2 fun z H3=>∃k,z=.bl k/\
 (if k=true then tc σ H3 fun w' H4=>r' y w' H4 Q else Q (.bl false) H3)
def TruV (K:Frag) (x:V) (H:Hp) (k:Bool):Prop:=
 match x with
 | .non=>k=false
 | .bl b=>k=b
 | .int i=>k=(i != 0)
 | .str y=>y.length<=sizeLine/\k=((y.length:Int) != 0)
 | .byt y=>y.size<=sizeLine/\k=((y.size:Int) != 0)
 | .ref p=>(∃xs,SqL K H p xs/\k=!xs.isEmpty)\/(∃xs,SqT K H p xs/\k=!xs.isEmpty)\/∃kvs,H p=some (.dK kvs)/\k=!kvs.isEmpty
 | _=>False
theorem a83:(sizeLine:Nat)<2 ^ 63:=by rw [sizeLine_eq];decide
theorem b4D:OpR X (binaryOp .Add) (fun x y H Q=>∃i j,x=.str i/\y=.str j/\i.length+j.length<=sizeLine/\Q (.str (i++j)) H):=by
 intro pins s σ H x y v u Q I rx ry h
 obtain ⟨i,j,rfl,rfl,hz,q⟩:=h
 obtain ⟨t,rfl⟩:=rx
 obtain ⟨t',rfl⟩:=ry
 exact add_str (fun t' tk=>⟨.str (i++j),H,I.tok _,⟨_,rfl⟩,q⟩) hz
def PlainIxT (b:Expr):Prop:=∀o i,subscripted b false o i=operate [o,i] (getItem o i)
theorem a6T {x:V} {us:List Value} (r:Vals [x] us):∃u,us=[u]/\RelV x u:=by
 cases r with
 | cons r1 r2=>cases r2;exact ⟨_,rfl,r1⟩
theorem vals2 {x y:V} {us:List Value} (r:Vals [x,y] us):∃u w',us=[u,w']/\RelV x u/\RelV y w':=by
 cases r with
 | cons r1 r2=>
  cases r2 with
  | cons r3 r4=>cases r4;exact ⟨_,_,rfl,r1,r3⟩
theorem call_abs:a2M X (.builtin "abs") (fun xs H Q=>∃i,xs=[.int i]/\Q (.int (if i<0 then -i else i)) H):=by
 intro pins s σ H xs us Q I r h
 obtain ⟨i,rfl,q⟩:=h
 obtain ⟨u,rfl,t,rfl⟩:=a6T r
 exact call_abs_int fun u tk=>⟨.int (if i<0 then -i else i),H,I.tok _,⟨_,rfl⟩,q⟩
theorem b18:a2M X (.type "int") (fun xs H Q=>(∃i,xs=[.int i]/\Q (.int i) H)\/∃k,xs=[.bl k]/\Q (.int (if k then 1 else 0)) H):=by
 intro pins s σ H xs us Q I r h
 rcases h with ⟨i,rfl,q⟩|⟨k,rfl,q⟩
 ·obtain ⟨u,rfl,t,rfl⟩:=a6T r
  exact call_int_int ⟨.int i,H,I,⟨_,rfl⟩,q⟩
 ·obtain ⟨u,rfl,r1⟩:=a6T r
  cases r1
  exact call_int_bool ⟨.int (if k then 1 else 0),H,I.tok _,⟨_,rfl⟩,q⟩
def LenV (K:Frag) (x:V) (H:Hp) (n:Nat):Prop:=
 match x with
 | .str y=>y.length<=sizeLine/\n=y.length
 | .byt y=>y.size<=sizeLine/\n=y.size
 | .ref p=>(∃xs,SqL K H p xs/\n=xs.length)\/∃xs,SqT K H p xs/\n=xs.length
 | _=>False
end
structure ObjM (h:Heap) (x dx C:Addr) (mA:Str->Option Value):Prop where
 obj:h.get? x=some (instObj C dx)
 ns:h.Ns1 dx mA
 ne:dx≠x
theorem b6Q {h:Heap} {dx:Addr} {mA:Str->Option Value} (n:h.Ns1 dx mA):∃od,h.get? dx=some od/\∀name,lookIn name od=some (mA name):=by
 obtain ⟨o,es,ep,ho,hd,hk,_,hm⟩:=n
 refine ⟨o,ho,fun name=>?_⟩
 have e:=hm name
 unfold nsFind findBy at e
 rw [←Array.find?_toList] at e
 unfold lookIn
 rw [hd]
 dsimp only
 split
 ·rename_i y q
  rw [q] at e
  exact congrArg some e
 ·rename_i q
  rw [q] at e
  have a:es.toList.any (·.refKey)=false:=by
   rw [List.any_eq_false]
   intro y hy
   obtain ⟨z,t,hkey⟩:=hk y (Array.mem_toList_iff.mp hy)
   simp [DictEntry.refKey,hkey]
  have a':¬es.toList.any (·.refKey)=true:=by rw [a];exact Bool.false_ne_true
  rw [if_neg a']
  exact congrArg some e
theorem ObjM.look {h:Heap} {x dx C:Addr} {mA:Str->Option Value} (I:ObjM h x dx C mA):∃od,PySem.W.InstAt h x (instObj C dx) C (some od)/\∀name,lookIn name od=some (mA name):=
 let ⟨od,ho,hl⟩:=b6Q I.ns
 ⟨od,⟨I.obj,rfl,rfl,ho⟩,hl⟩
section
variable {prog:Program} {w:World} {A:Around} {E:Value->Shared->Prop} {s:Shared} {K:Frag} {x dx C f:Addr} {mA:Str->Option Value} {name:Str} {v:Value}
theorem get_map {expr:Bool} {Q:Value->Shared->Prop} (X:K.In s.heap) (I:ObjM s.heap x dx C mA) (hg:plainGet K C name=true) (hh:hasDictIn K C=true)
  (ha:findIn K (.ref C) name=some none) (hv:mA name=some v) (hv':handedIn v=true) (h:Q v { s with toks:=s.toks+1 }):
  wpAny (model prog w) A (getAttr (.ref x) name expr) Q E s:=by
 obtain ⟨od,J,hl⟩:=I.look
 exact PySem.W.get_value X J (plainGet_of hg).1 (PySem.W.findObj_own hh ha rfl (by rw [hl,hv])) hv' h
theorem get_meth {pl:Sem Bool} {Q:Value×List Value->Shared->Prop} (X:K.In s.heap) (I:ObjM s.heap x dx C mA) (hg:plainGet K C name=true)
  (hf:findIn K (.ref C) name=some (some (.ref f))) (ht:isFn K (.ref f)=true) (hv:mA name=none) (h:Q (.ref f,[.ref x]) s):
  wpAny (model prog w) A (getMethod (.ref x) name pl) Q E s:=by
 obtain ⟨od,J,hl⟩:=I.look
 exact PySem.W.method_fn X J (plainGet_of hg).1 (plainGet_of hg).2 hf (beq_iff_eq.mp ht) (by show (lookIn name od).map (·.isSome)=some false;rw [hl,hv];rfl) h
theorem set_map {ns:List Str} {Q:Unit->Shared->Prop} (X:K.In s.heap) (I:ObjM s.heap x dx C mA)
  (hs:findIn K (.ref C) "__setattr__" = some (some (.builtin "object.__setattr__"))) (hp:plainOver K C=true) (ht:takerIn K C name=some none) (hh:hasDictIn K C=true)
  (hw:PySem.Within mA ns) (hsz:ns.length<=sizeLine)
  (h:∀h',ObjM h' x dx C (fun y=>if y=name then some v else mA y)->Heap.SameBut dx s.heap h'->Q () { s with heap:=h',toks:=s.toks+2 }):
  wpAny (model prog w) A (setAttr (.ref x) name v) Q E s:=by
 obtain ⟨od,J,hl⟩:=I.look
 refine PySem.W.set_plain X J hs (PySem.W.osa_open (s:={ s with toks:=s.toks+1 }) (r:=none) X J hp ht fun b=>?_)
 obtain ⟨cd,hc,hd'⟩:=PySem.W.any_some hh
 have hx:s.heap.get? x=some ⟨.ref C,some dx,.plain,#[]⟩:=I.obj
 refine wpAny_bind (wpAny_pure (wpAny_bind (wpAny_bind (wpAny_loadPart hx (wpAny_bind (PySem.W.Looks.here (s:={ s with toks:=s.toks+1 }) (PySem.W.looks_clsIn X hc) ?_))))))
 rw [hd']
 refine wpAny_pure (a:=some dx) (wpAny_bind (wpAny_pure (wpAny_bind ?_)))
 refine wpAny_nsSet1 (s:={ s with toks:=s.toks+1 }) I.ns fun h' hn2 hs2=>?_
 obtain ⟨oD,esD,epD,hoD,hdD,hcD⟩:=hn2.count (PySem.Within.cons name v hw)
 refine wpAny_bind (wpAny_lookBehind hoD (by rw [hdD];exact pastItsLine_dict (le_trans hcD (by rw [length_cons];omega))) ?_)
 exact wpAny_pure (h _ ⟨(hs2.2 _ (Ne.symm I.ne)).trans I.obj,hn2,I.ne⟩ hs2)
theorem make_map {R:Result->Shared->Prop} {vs:List Value} {kw:List (Str×Value)} (X:K.In s.heap) (hm:makesIn K C=true)
  (hi:findIn K (.ref C) "__init__" = some (some (.ref f))) (hf:PySem.W.typeIn K (.ref f)=some (.type "function"))
  (h:codeAny (model prog w) (A.under (.builtin "type.__call__" ⟨.ref C::vs,kw⟩)) (.call (.ref f) ⟨.ref (s.heap.objs.size+1)::vs,kw⟩) (PySem.W.InitBack (s.heap.objs.size+1) R)
   { s with heap:=(s.heap.push emptyDict).push (instObj C s.heap.objs.size) }):
  codeAny (model prog w) A (.call (.ref C) ⟨vs,kw⟩) R s:=by
 obtain ⟨hh,g,d,t,os⟩:=s
 exact PySem.W.make_core (PySem.W.makes_of X hm) (PySem.W.looks_findIn X hi) (fun self=>PySem.W.bind_fn X self hf) (.inl rfl) h
end
def putF (f:Str) (v:V):List (Str×V)->List (Str×V)
 | []=>[(f,v)]
 | (g,x)::r=>if g=f then (g,v)::r else (g,x)::putF f v r
theorem a7Z (f g:Str) (v:V):∀fs:List (Str×V),(putF f v fs).lookup g=if g=f then some v else fs.lookup g
 | []=>by
  show List.lookup g [(f,v)]=_
  by_cases h:g=f
  ·have hb:(g == f)=true:=beq_iff_eq.mpr h
   simp only [List.lookup,hb,if_pos h]
  ·have hb:(g == f)=false:=beq_eq_false_iff_ne.mpr h
   simp only [List.lookup,hb,if_neg h]
 | (k,x)::r=>by
  have ih:=a7Z f g v r
  rw [show putF f v ((k,x)::r)=(if k=f then (k,v)::r else (k,x)::putF f v r) from rfl]
  by_cases hk:k=f
  ·rw [if_pos hk]
   by_cases h:g=k
   ·have hb:(g == k)=true:=beq_iff_eq.mpr h
    simp only [List.lookup,hb,if_pos (h.trans hk)]
   ·have hb:(g == k)=false:=beq_eq_false_iff_ne.mpr h
    simp only [List.lookup,hb,if_neg (fun e:g=f=>h (e.trans hk.symm))]
  ·rw [if_neg hk]
   by_cases h:g=k
   ·have hb:(g == k)=true:=beq_iff_eq.mpr h
    simp only [List.lookup,hb,if_neg (fun e:g=f=>hk (h.symm.trans e))]
   ·have hb:(g == k)=false:=beq_eq_false_iff_ne.mpr h
    simp only [List.lookup,hb]
    exact ih
theorem a74 (f:Str) (v:V):∀fs:List (Str×V),f∈(putF f v fs).map (·.1)/\∀g,g∈fs.map (·.1)->g∈(putF f v fs).map (·.1)
 | []=>⟨by simp [putF],fun g h=>by simp at h⟩
 | (k,x)::r=>by
  obtain ⟨i1,i2⟩:=a74 f v r
  rw [show putF f v ((k,x)::r)=(if k=f then (k,v)::r else (k,x)::putF f v r) from rfl]
  by_cases hk:k=f
  ·rw [if_pos hk]
   subst hk
   exact ⟨by simp,fun g h=>by simpa using h⟩
  ·rw [if_neg hk]
   refine ⟨?_,fun g h=>?_⟩
   ·rw [map_cons]
    exact mem_cons_of_mem _ i1
   ·rw [map_cons] at h ⊢
    rcases mem_cons.mp h with e|e
    ·exact mem_cons.mpr (.inl e)
    ·exact mem_cons_of_mem _ (i2 g e)
theorem a71 (f:Str) (v:V):∀fs:List (Str×V),(putF f v fs).length<=fs.length+1
 | []=>by simp [putF]
 | (k,x)::r=>by
  have ih:=a71 f v r
  rw [show putF f v ((k,x)::r)=(if k=f then (k,v)::r else (k,x)::putF f v r) from rfl]
  by_cases hk:k=f
  ·rw [if_pos hk,length_cons,length_cons];omega
  ·rw [if_neg hk,length_cons,length_cons];omega
theorem RelO.some_of {v:V} {o:Option Value} (r:RelO (some v) o):∃u,o=some u/\RelV v u:=by
 cases o with
 | none=>exact (show False from r).elim
 | some u=>exact ⟨u,rfl,r⟩
theorem RelO.none_of {o:Option Value} (r:RelO none o):o=none:=by
 cases o with
 | none=>rfl
 | some u=>exact (show False from r).elim
theorem b67 {v:V} {u:Value} (r:RelV v u):handedIn u=true:=by
 cases v with
 | non=>cases (show u=Value.none from r);rfl
 | bl b=>cases (show u=Value.bool b from r);rfl
 | int i=>obtain ⟨t,e⟩:=(show ∃t,u=Value.int i t from r);cases e;rfl
 | str x=>obtain ⟨t,e⟩:=(show ∃t,u=Value.str x t from r);cases e;rfl
 | byt b=>obtain ⟨t,e⟩:=(show ∃t,u=Value.bytes b t from r);cases e;rfl
 | flt b=>obtain ⟨t,e⟩:=(show ∃t,u=Value.float b t from r);cases e;rfl
 | ref a=>cases (show u=Value.ref a from r);rfl
 | ty n=>cases (show u=Value.type n from r);rfl
section
variable {P:Program} {w:World} {H H':Hp} {h h':Heap} {a C dx:Addr} {fs fs':List (Str×V)}
theorem b0n (hok:HOk P w H h) (e:H a=some (.ins C dx fs)):∃mA,ObjM h a dx C mA/\(∀f,RelO (fs.lookup f) (mA f))/\PySem.Within mA (fs.map (·.1))/\fs.length<=1000/\H dx=some (.own a):=by
 obtain ⟨d,z,ne,ob,mA,n,r,q⟩:=(show a3n P w H h a (.ins C dx fs) from hok a _ e)
 exact ⟨mA,⟨ob,n,ne⟩,r,q,z,d⟩
end
structure Cls (K:Frag) (C:Addr):Prop where
 pg:plainGet K C Str.empty=true
 hd:hasDictIn K C=true
 po:plainOver K C=true
 sa:findIn K (.ref C) "__setattr__" = some (some (.builtin "object.__setattr__"))
theorem Cls.get {K:Frag} {C:Addr} (c:Cls K C) (f:Str):plainGet K C f=true:=c.pg
def a1C (K:Frag) (C:Addr) (f:Str):Prop:=findIn K (.ref C) f=some none
theorem a1C.taker {K:Frag} {C:Addr} {f:Str} (n:a1C K C f):takerIn K C f=some none:=by
 unfold takerIn
 rw [show findIn K (.ref C) f=some none from n]
 rfl
structure Con (K:Frag) (C:Addr) (f:Str) (v:V) (u:Value):Prop where
 at_:findIn K (.ref C) f=some (some u)
 rel:RelV v u
 get:specialIn K u "__get__" = some none
 cp:PySem.W.copiedNames.contains f=false
structure Meth (K:Frag) (C:Addr) (m:Str) (f:Addr):Prop where
 at_:findIn K (.ref C) m=some (some (.ref f))
 fn:isFn K (.ref f)=true
 kp:keepIn K (.ref f)=true
section
variable {X:Cx} {pins:List (Addr×Obj)} {σ:St} {H:Hp} {s:Shared} {a C dx:Addr} {fs:List (Str×V)} {f:Str} {v:V} {A:Around} {E:Value->Shared->Prop}
theorem b46 {b:Bool} {Q:Value->Shared->Prop} (I:Inv X pins σ H s) (e:H a=some (.ins C dx fs)) (c:Cls X.K C) (n:a1C X.K C f) (l:fs.lookup f=some v)
  (h:∀u s',Inv X pins σ H s'->RelV v u->Q u s'):wpAny (model X.prog X.w) A (getAttr (.ref a) f b) Q E s:=by
 obtain ⟨mA,O,r,_,_,_⟩:=b0n I.hok e
 obtain ⟨u,hu,ru⟩:=RelO.some_of (v:=v) (o:=mA f) (by rw [←l];exact r f)
 exact get_map I.kIn O (c.get f) c.hd n hu (b67 ru) (h u _ (I.tok _) ru)
theorem a89 {m:Str} {g:Addr} {pl:Sem Bool} {Q:Value×List Value->Shared->Prop} (I:Inv X pins σ H s) (e:H a=some (.ins C dx fs)) (c:Cls X.K C) (k:Meth X.K C m g) (l:fs.lookup m=none)
  (h:Q (.ref g,[.ref a]) s):wpAny (model X.prog X.w) A (getMethod (.ref a) m pl) Q E s:=by
 obtain ⟨mA,O,r,_,_,_⟩:=b0n I.hok e
 have hn:mA m=none:=RelO.none_of (by rw [←l];exact r m)
 exact get_meth I.kIn O (c.get m) k.at_ k.fn hn h
theorem b4m {y:V} {u:Value} {Q:Unit->Shared->Prop} (I:Inv X pins σ H s) (e:H a=some (.ins C dx fs)) (c:Cls X.K C) (n:a1C X.K C f) (hl:fs.length<1000) (ry:RelV y u)
  (h:∀s',Inv X pins σ (upd H a (.ins C dx (putF f y fs))) s'->Q () s'):wpAny (model X.prog X.w) A (setAttr (.ref a) f u) Q E s:=by
 obtain ⟨mA,O,r,wi,_,ho⟩:=b0n I.hok e
 have hz:(fs.map (·.1)).length<=sizeLine:=by rw [length_map,sizeLine_eq];omega
 refine set_map I.kIn O c.sa c.po n.taker c.hd wi hz fun h' O' sb=>h _ ?_
 have hd:∃o,h'.get? dx=some o:=let ⟨o,_,_,e',_⟩:=O'.ns;⟨o,e'⟩
 refine I.write (x:=a) (e:=dx) (by rw [e];exact True.intro) (.inr ho) (fun b q hb z=>(sb.2 b hb).trans z) hd ?_
 refine ⟨by rw [a0J O.ne];exact ho,?_,O.ne,O'.obj,_,O'.ns,fun g=>?_,fun g hg=>?_⟩
 ·have:=a71 f y fs;omega
 ·show RelO ((putF f y fs).lookup g) (if g=f then some u else mA g)
  rw [a7Z]
  by_cases q:g=f
  ·rw [if_pos q,if_pos q];exact ry
  ·rw [if_neg q,if_neg q];exact r g
 ·by_cases q:g=f
  ·rw [q];exact (a74 f y fs).1
  ·refine (a74 f y fs).2 g (wi g fun z=>hg ?_)
   show (if g=f then some u else mA g)=none
   rw [if_neg q];exact z
theorem Inv.made (I:Inv X pins σ H s):Inv X pins σ (upd (upd H s.heap.objs.size (.own (s.heap.objs.size+1))) (s.heap.objs.size+1) (.ins C s.heap.objs.size []))
  { s with heap:=(s.heap.push emptyDict).push (instObj C s.heap.objs.size) }:=by
 have e1:(s.heap.push emptyDict).get? s.heap.objs.size=some emptyDict:=get?_push_size s.heap rfl
 have e2:((s.heap.push emptyDict).push (instObj C s.heap.objs.size)).get? (s.heap.objs.size+1)=some (instObj C s.heap.objs.size):=by
  have:=get?_push_size (s.heap.push emptyDict) (o:=instObj C s.heap.objs.size) rfl
  rwa [size_push] at this
 have e3:(s.heap.push emptyDict).Ns s.heap.objs.size (fun _=>none):=⟨emptyDict,#[],_,e1,rfl,(fun e he=>absurd he (by simp)),fun _=>rfl⟩
 have I1:=I.laid (a:=s.heap.objs.size) (o:=.own (s.heap.objs.size+1)) (h':=s.heap.push emptyDict) (t':=s.toks) (fun b u q=>get?_push_of_some _ q) (le_refl _) ⟨_,e1⟩
 refine I1.laid (a:=s.heap.objs.size+1) (o:=.ins C s.heap.objs.size []) (t':=s.toks) (fun b u q=>get?_push_of_some _ q) (le_of_eq (size_push _ _)) ?_
 have ne:s.heap.objs.size≠s.heap.objs.size+1:=ne_of_lt (lt_succ_self _)
 refine ⟨by rw [a0J ne,a0O],zero_le _,ne,e2,fun _=>none,(Heap.Ns1.of_empty e3).at fun o q=>get?_push_of_some _ q,fun _=>True.intro,fun y hy=>absurd rfl hy⟩
theorem attr_of {prog:Program} {w:World} {env:Env} {e:Expr} {f:Str} {pos:Pos} {s:Shared} {Q:Value->Shared->Prop} (hb:attributeBase e f env (eval e env)=eval e env)
  (h:wpAny (model prog w) A (eval e env) (fun o s₁=>wpAny (model prog w) A (getAttr o f true) Q E s₁) E s):wpAny (model prog w) A (eval (.Attribute e f pos) env) Q E s:=
 Attribute_any_ h (by rw [arm_eval_Attribute,hb])
end
def tFld (K:Frag) (ta:TE) (f:Str):TE:=fun σ H Q=>ta σ H fun x H1=>∃a C dx fs v,x=.ref a/\H1 a=some (.ins C dx fs)/\Cls K C/\a1C K C f/\fs.lookup f=some v/\Q v H1
def tCon (K:Frag) (ta:TE) (f:Str):TE:=fun σ H Q=>ta σ H fun x H1=>∃a C dx fs v u,x=.ref a/\H1 a=some (.ins C dx fs)/\Cls K C/\Con K C f v u/\fs.lookup f=none/\Q v H1
def sFld (K:Frag) (ta tv:TE) (f:Str):TS:=fun D σ H=>tv σ H fun y H1=>ta σ H1 fun x H2=>∃a C dx fs,x=.ref a/\H2 a=some (.ins C dx fs)/\Cls K C/\a1C K C f/\fs.length<1000/\
 D.nx σ (upd H2 a (.ins C dx (putF f y fs)))
def InOp (X:Cx) (op:Operator) (rd:V->V->Hp->VK->Prop):Prop:=
 ∀(pins:List (Addr×Obj)) (s:Shared) (σ:St) (H:Hp) (x y:V) (u v:Value) (Q:VK),Inv X pins σ H s->RelV x u->RelV y v->rd x y H Q->wpAny (model X.prog X.w) X.A (inplaceOp op u v) (EP X pins σ Q) X.xe s
def sFldAug (K:Frag) (ta tv:TE) (rd:V->V->Hp->VK->Prop) (f:Str):TS:=fun D σ H=>ta σ H fun x H1=>∃a C dx fs v,x=.ref a/\H1 a=some (.ins C dx fs)/\Cls K C/\a1C K C f/\fs.lookup f=some v/\
 tv σ H1 fun y H2=>rd v y H2 fun z H3=>∃dx' fs',H3 a=some (.ins C dx' fs')/\fs'.length<1000/\D.nx σ (upd H3 a (.ins C dx' (putF f z fs')))
section
variable {X:Cx} {o e value:Expr} {f:Str} {pos pos' tpos:Pos} {ta tv:TE}
theorem pe_fld (he:PE X e ta) (hb:attributeBase e f X.env (eval e X.env)=eval e X.env):PE X (.Attribute e f pos) (tFld X.K ta f):=by
 intro pins s σ H Q I h
 refine attr_of hb (thn (he pins s σ H _ I h) fun u s1 ⟨x,H1,I1,rx,a,C,dx,fs,v,ex,ea,c,n,l,q⟩=>?_)
 subst ex
 obtain rfl:u=Value.ref a:=rx
 exact b46 I1 ea c n l fun u' s2 I2 ru=>⟨v,H1,I2,ru,q⟩
theorem ps_fld (ha:PE X o ta) (hv:PE X value tv) (hs:swapsWith value (some (.Attribute o f pos')) pos.line X.env=pure false):PS X (.Assign [.Attribute o f pos'] value pos) (sFld X.K ta tv f):=by
 intro pins s σ H D I h
 refine plainObj_wpAny_Assign_Attribute (thn (hv pins s σ H _ I h) fun u s1 ⟨y,H1,I1,ry,q⟩=>thn (ha pins s1 σ H1 _ I1 q) fun ov s2 ⟨x,H2,I2,rx,a,C,dx,fs,ex,ea,c,n,l,q2⟩=>?_) hs
 subst ex
 obtain rfl:ov=Value.ref a:=rx
 exact b4m I2 ea c n l ry fun s3 I3=>⟨σ,_,I3,q2⟩
def rAdd:V->V->Hp->VK->Prop:=fun x y H Q=>∃i j,x=.int i/\y=.int j/\Q (.int (i+j)) H
def rSub:V->V->Hp->VK->Prop:=fun x y H Q=>∃i j,x=.int i/\y=.int j/\Q (.int (i - j)) H
end
section
variable {X:Cx} {pins:List (Addr×Obj)} {σ:St} {H:Hp} {s:Shared} {A:Around} {E:Value->Shared->Prop} {Q:Value->Shared->Prop} {c:Value} {b:Bool}
inductive TyOf (K:Frag) (H:Hp):V->Value->Prop where
 | non:TyOf K H .non (.type "NoneType")
 | bl (x:Bool):TyOf K H (.bl x) (.type "bool")
 | int (i:Int):TyOf K H (.int i) (.type "int")
 | str (x:Str):TyOf K H (.str x) (.type "str")
 | flt (x:UInt64):TyOf K H (.flt x) (.type "float")
 | lst {a:Addr} {xs:List V} (e:H a=some (.lst xs)):TyOf K H (.ref a) (.type "list")
 | frz {a:Addr} {o:Obj} {xs:List V} (e:H a=some (.frz o (.lst xs))):TyOf K H (.ref a) (.type "list")
 | tup {a:Addr} {xs:List V} (e:H a=some (.tup xs)):TyOf K H (.ref a) (.type "tuple")
 | dK {a:Addr} {kvs:List (Key×V)} (e:H a=some (.dK kvs)):TyOf K H (.ref a) (.type "dict")
 | dT {a:Addr} {kvs:List (List Key×V)} (e:H a=some (.dT kvs)):TyOf K H (.ref a) (.type "dict")
 | ins {a C dx:Addr} {fs:List (Str×V)} (e:H a=some (.ins C dx fs)) (cl:Cls K C) (ha:findIn K (.ref C) "__class__" = some (some (.builtin "object.__class__")))
   (hn:specialIn K (.builtin "object.__class__") "__get__" = some (some (.builtin "getset_descriptor.__get__"))) (htk:takesIn K (.builtin "object.__class__")=some true)
   (hm:mroIn K C (.type "object")=some true):TyOf K H (.ref a) (.ref C)
theorem b6W {x:V} {u t:Value} (I:Inv X pins σ H s) (rx:RelV x u) (ty:TyOf X.K H x t) (e:kitOne X.K t c=some b) (h:∀tk,Q (.bool b) { s with toks:=tk }):
  wpAny (model X.prog X.w) A (call (.builtin "isinstance") [u,c]) Q E s:=by
 cases ty with
 | non=>cases (show u=Value.none from rx);exact kia_one PySem.W.kitx_none I.kIn True.intro e (fun z=>nomatch z) h
 | bl y=>cases (show u=Value.bool y from rx);exact kia_one PySem.W.kitx_bool I.kIn True.intro e (fun z=>nomatch z) h
 | int i=>obtain ⟨t,q⟩:=(show ∃t,u=Value.int i t from rx);cases q;exact kia_one PySem.W.kitx_int I.kIn True.intro e (fun z=>nomatch z) h
 | str y=>obtain ⟨t,q⟩:=(show ∃t,u=Value.str y t from rx);cases q;exact kia_one PySem.W.kitx_str I.kIn True.intro e (fun z=>nomatch z) h
 | flt y=>obtain ⟨t,q⟩:=(show ∃t,u=Value.float y t from rx);cases q;exact kia_one PySem.W.kitx_float I.kIn True.intro e (fun z=>nomatch z) h
 | @lst a xs ea=>
  cases (show u=Value.ref a from rx)
  obtain ⟨_,_,n,_,h1⟩:=(show a3n X.prog X.w H s.heap a (.lst xs) from I.hok a _ ea)
  exact kia_one kitx_list I.kIn ⟨_,h1,rfl⟩ e (fun z=>nomatch z) h
 | @frz a ob xs ea=>
  cases (show u=Value.ref a from rx)
  obtain ⟨_,_,_,n,_,h1⟩:=(show a3n X.prog X.w H s.heap a (.frz ob (.lst xs)) from I.hok a _ ea)
  exact kia_one kitx_list I.kIn ⟨_,h1,rfl⟩ e (fun z=>nomatch z) h
 | @tup a xs ea=>
  cases (show u=Value.ref a from rx)
  obtain ⟨_,_,_,p⟩:=(show a3n X.prog X.w H s.heap a (.tup xs) from I.hok a _ ea)
  obtain ⟨o,h1,h2,_⟩:=p
  exact kia_one PySem.W.kitx_tuple I.kIn ⟨o,h1,h2⟩ e (fun z=>nomatch z) h
 | @dK a kvs ea=>
  cases (show u=Value.ref a from rx)
  obtain ⟨_,_,vs,_,p⟩:=(show a3n X.prog X.w H s.heap a (.dK kvs) from I.hok a _ ea)
  obtain ⟨o,es,ep,h1,h2,_⟩:=p
  exact kia_one kitx_dict I.kIn ⟨o,h1,h2.1⟩ e (fun z=>nomatch z) h
 | @dT a kvs ea=>
  cases (show u=Value.ref a from rx)
  obtain ⟨_,_,xs,_,o,es,ep,h1,h2,_⟩:=(show a3n X.prog X.w H s.heap a (.dT kvs) from I.hok a _ ea)
  exact kia_one kitx_dict I.kIn ⟨o,h1,h2.1⟩ e (fun z=>nomatch z) h
 | @ins a C dx fs ea cl ha hn htk hm=>
  cases (show u=Value.ref a from rx)
  obtain ⟨mA,O,_⟩:=b0n I.hok ea
  obtain ⟨od,J,_⟩:=O.look
  exact kia_one (PySem.W.kitx_own (cl.get _) cl.hd ha hn htk hm) I.kIn J e (fun z=>nomatch z) h
end
structure Room (k:Nat) (A:Around):Prop where
 hd:A.handled=none
 dp:A.depth+3 * k+5<recursionLimit
 un:A.units+16 * k+200<cLine
theorem Room.mono {j k:Nat} {A:Around} (r:Room k A) (h:j<=k):Room j A:=⟨r.hd,by have:=r.dp;omega,by have:=r.un;omega⟩
theorem Room.deeper {k:Nat} {A:Around} (r:Room (k+1) A) (env:Env):Room k (A.deeper env):=
 ⟨r.hd,by have:=r.dp;show A.depth+1+3 * k+5<_;omega,by have:=r.un;show A.units+3+16 * k+200<_;omega⟩
theorem Room.in1 {k:Nat} {A:Around} (r:Room (k+1) A):Room k A.in1:=
 ⟨r.hd,by have:=r.dp;show A.depth+3 * k+5<_;omega,by have:=r.un;show A.units+1+16 * k+200<_;omega⟩
theorem b4T {A:Around} {C:Addr} {us:List Value} {kw:List (Str×Value)}:(A.under (.builtin "type.__call__" ⟨.ref C::us,kw⟩)).depth=A.depth+1:=by
 first|rfl|simp [Around.under,Code.weight,Code.isCreation,Code.isGuard,Code.isCaller,Code.frames,Code.isFrame,guardIds]
theorem b4S {A:Around} {C:Addr} {us:List Value} {kw:List (Str×Value)}:(A.under (.builtin "type.__call__" ⟨.ref C::us,kw⟩)).units=A.units+1:=by
 first|rfl|simp [Around.under,Code.cUnits,Code.frames,Code.isFrame]
theorem Room.make {k:Nat} {A:Around} (r:Room (k+1) A) (C:Addr) (us:List Value) (kw:List (Str×Value)):Room k (A.under (.builtin "type.__call__" ⟨.ref C::us,kw⟩)):=
 ⟨r.hd,by have:=r.dp;rw [b4T];omega,by have:=r.un;rw [b4S];omega⟩
theorem Room.depth {k:Nat} {A:Around} (r:Room k A):A.depth<recursionLimit:=by have:=r.dp;omega
theorem Room.units {k:Nat} {A:Around} (r:Room k A):A.units+64<cLine:=by have:=r.un;omega
def tNil:TA:=fun _ H Q=>Q [] H
def b5L (ta:TE) (tr:TA):TA:=fun σ H Q=>ta σ H fun x H1=>tr σ H1 fun xs H2=>Q (x::xs) H2
section
variable {X:Cx} {e:Expr} {es:List Expr} {te:TE} {t:TA} {pos:Pos}
theorem a4Z:PA X [] tNil:=fun _ _ _ _ H Q I h=>Calls.spliced_nil ⟨[],H,I,.nil,h⟩
theorem a1N (ha:PE X e te) (hr:PA X es t) (hs:starEach (e::es) X.env=(false,eval e X.env)::starEach es X.env:=by rfl):PA X (e::es) (b5L te t):=by
 intro pos pins s σ H Q I h
 rw [hs]
 show wpAny _ _ (spliced ((false,eval e X.env)::backTo pos (starEach es X.env))) _ _ s
 refine Calls.spliced_cons (thn (ha pins s σ H _ I h) fun u s1 ⟨x,H1,I1,r1,q1⟩=>?_)
 exact thn (hr pos pins s1 σ H1 _ I1 q1) fun us s2 ⟨xs,H2,I2,r2,q2⟩=>⟨x::xs,H2,I2,.cons r1 r2,q2⟩
def tTup (t:TA):TE:=fun σ H Q=>t σ H fun xs H1=>xs.length<=sizeLine/\∀p,H1 p=none->Q (.ref p) (upd H1 p (.tup xs))
def tLst (t:TA):TE:=fun σ H Q=>t σ H fun xs H1=>xs.length<=sizeLine/\∀p,H1 p=none->Q (.ref p) (upd H1 p (.lst xs))
theorem pe_tup {x1} (h:PA X es t):PE X (.Tuple es x1 pos) (tTup t):=by
 intro pins s σ H Q I hq
 refine wpAny_Tuple_spliced (thn (h pos pins s σ H _ I hq) fun us s1 ⟨xs,H1,I1,r,z,q⟩=>⟨by rw [←r.length];exact z,?_⟩)
 have hf:H1 s1.heap.objs.size=none:=I1.hok.fresh (le_refl _)
 refine ⟨.ref s1.heap.objs.size,upd H1 s1.heap.objs.size (.tup xs),I1.laid (t':=s1.toks) (fun b u e=>get?_push_of_some _ e) (le_refl _) ?_,rfl,q _ hf⟩
 exact ⟨z,us,r,⟨_,get?_push_size _ rfl,rfl,_,rfl⟩⟩
theorem pe_lst (h:PA X es t):PE X (.List es pos) (tLst t):=by
 intro pins s σ H Q I hq
 refine wpAny_List_spliced (thn (h pos pins s σ H _ I hq) fun us s1 ⟨xs,H1,I1,r,z,q⟩=>⟨by rw [←r.length];exact z,?_⟩)
 have hf:H1 s1.heap.objs.size=none:=I1.hok.fresh (le_refl _)
 refine ⟨.ref s1.heap.objs.size,upd H1 s1.heap.objs.size (.lst xs),I1.laid (t':=s1.toks) (fun b u e=>get?_push_of_some _ e) (le_refl _) ?_,rfl,q _ hf⟩
 exact ⟨z,us,0,r,get?_push_size _ rfl⟩
end
abbrev Sp:=List V->Hp->VK->XK->Prop
abbrev CXT:=List Env->Hp->Shared->XK->Value->Shared->Prop
structure Env0 (P:Program) (w:World) (K:Frag) (mg:Str->Option Value) (base:Heap) (A:Around) (outer:List Env) (s:Shared) (H:Hp):Prop where
 frames:A.frames=some outer
 mod:Mod K mg base
 bs:∀b o,base.get? b=some o->s.heap.get? b=some o/\H b=none
 bsz:base.objs.size<=s.heap.objs.size
 funs:s.heap.FunFrames base outer
 frf:∀b∈frs outer,H b=none
 hok:HOk P w H s.heap
 bare:AllBare s.gens
def CE (outer:List Env) (P:Program) (w:World) (H:Hp) (s:Shared) (Q:VK) (u:Value) (s':Shared):Prop:=
 ∃v H',s'.os=s.os/\AllBare s'.gens/\Un (frs outer) [] H H' s.heap s'.heap/\HOk P w H' s'.heap/\RelV v u/\Q v H'
def CR (CX:CXT) (outer:List Env) (P:Program) (w:World) (H:Hp) (s:Shared) (Q:VK) (E:XK) (r:Result) (s':Shared):Prop:=
 match r with
 | .ok (.ret u)=>CE outer P w H s Q u s'
 | .ok _=>False
 | .error e=>CX outer H s E e s'
structure FnOk (P:Program) (w:World) (K:Frag) (mg:Str->Option Value) (base:Heap) (CX:CXT) (k:Nat) (f:Addr) (fd:FuncData) (ps:List Str) (sp:Sp):Prop where
 len:∀vs H Q E,sp vs H Q E->vs.length=ps.length
 run:∀(A:Around) (outer:List Env) (s:Shared) (H:Hp) (args:Args) (us:List Value) (vs:List V) (Q:VK) (E:XK),Room k A->Env0 P w K mg base A outer s H->BindsTo s fd args (ps.zip us)->Vals vs us->sp vs H Q E->
  codeAny (model P w) A (.call (.ref f) args) (CR CX outer P w H s Q E) s
theorem FnOk.mono {P:Program} {w:World} {K:Frag} {mg:Str->Option Value} {base:Heap} {CX:CXT} {j k:Nat} {f:Addr} {fd:FuncData} {ps:List Str} {sp:Sp} (F:FnOk P w K mg base CX j f fd ps sp) (h:j<=k):
  FnOk P w K mg base CX k f fd ps sp:=⟨F.len,fun A outer s H args us vs Q E hr=>F.run A outer s H args us vs Q E (hr.mono h)⟩
theorem FnOk.imp {P:Program} {w:World} {K:Frag} {mg:Str->Option Value} {base:Heap} {CX:CXT} {k:Nat} {f:Addr} {fd:FuncData} {ps:List Str} {sp sp':Sp} (F:FnOk P w K mg base CX k f fd ps sp)
  (h:∀vs H Q E,sp' vs H Q E->sp vs H Q E):FnOk P w K mg base CX k f fd ps sp':=
 ⟨fun vs H Q E q=>F.len vs H Q E (h _ _ _ _ q),fun A outer s H args us vs Q E hr he hb hv hs=>F.run A outer s H args us vs Q E hr he hb hv (h _ _ _ _ hs)⟩
theorem Env0.make {P:Program} {w:World} {K:Frag} {mg:Str->Option Value} {base:Heap} {A:Around} {outer:List Env} {s:Shared} {H:Hp} (e:Env0 P w K mg base A outer s H) (C:Addr) (us:List Value) (kw:List (Str×Value)):
  Env0 P w K mg base (A.under (.builtin "type.__call__" ⟨.ref C::us,kw⟩)) outer s H:=⟨by first|exact e.frames|(simpa [Around.under,Code.envs,Code.isFrame,pushEnvs] using e.frames),e.mod,e.bs,e.bsz,e.funs,e.frf,e.hok,e.bare⟩
theorem Env0.in1 {P:Program} {w:World} {K:Frag} {mg:Str->Option Value} {base:Heap} {A:Around} {outer:List Env} {s:Shared} {H:Hp} (e:Env0 P w K mg base A outer s H):
  Env0 P w K mg base A.in1 outer s H:=⟨e.frames,e.mod,e.bs,e.bsz,e.funs,e.frf,e.hok,e.bare⟩
section
variable {X:Cx} {pins:List (Addr×Obj)} {σ:St} {H:Hp} {s s':Shared}
theorem Inv.env0 (I:Inv X pins σ H s):Env0 X.prog X.w X.K X.mg X.base X.A X.stack s H:=
 ⟨I.ok.frames,I.ok.mod,I.bs,le_trans I.ok.bsz I.sz,I.stack,I.stkFree,I.hok,I.bare⟩
theorem Inv.after {Q:VK} {u:Value} (I:Inv X pins σ H s) (h:CE X.stack X.prog X.w H s Q u s'):EP X pins σ Q u s':=by
 obtain ⟨v,H',os,bare,un,hok,r,q⟩:=h
 obtain ⟨hh,g,d,t,os'⟩:=s'
 obtain rfl:os'=s.os:=os
 exact ⟨v,H',I.call (h':=hh) (g':=g) (d':=d) (t':=t) (ch:=[]) un hok bare (fun b z=>absurd z (by simp)),r,q⟩
end
def tCall (sp:Sp) (dvs:List V) (E:XK) (t:TA):TE:=fun σ H Q=>t σ H fun vs H1=>sp (vs++dvs) H1 Q E
def tMeth (C:Addr) (m:Str) (sp:Sp) (dvs:List V) (E:XK) (ta:TE) (t:TA):TE:=fun σ H Q=>ta σ H fun x H1=>∃a dx fs,x=.ref a/\H1 a=some (.ins C dx fs)/\fs.lookup m=none/\
 t σ H1 fun vs H2=>sp (x::(vs++dvs)) H2 Q E
def tMake (C:Addr) (sp:Sp) (dvs:List V) (E:XK) (t:TA):TE:=fun σ H Q=>t σ H fun vs H1=>∀x dx,H1 x=none->H1 dx=none->dx≠x->
 sp (.ref x::(vs++dvs)) (upd (upd H1 dx (.own x)) x (.ins C dx [])) (fun v H2=>v=.non/\Q (.ref x) H2) E
def a4o (K:Frag) (fd:FuncData) (ps:List Str) (ds:List Value):Prop:=
 ∀(s:Shared) (us:List Value),K.In s.heap->(us++ds).length=ps.length->BindsTo s fd ⟨us,[]⟩ (ps.zip (us++ds))
theorem a4o.all {K:Frag} {fd:FuncData} {ps:List Str} (h:∀us:List Value,us.length=ps.length->bindArgs fd ⟨us,[]⟩=pure (ps.zip us)):a4o K fd ps []:=fun s us _ hl=>by
 rw [append_nil] at hl ⊢
 exact .of_eq (h us hl)
def a9g (CX:CXT) (X:Cx) (E:XK):Prop:=∀(pins:List (Addr×Obj)) (σ:St) (H:Hp) (s:Shared) (e:Value) (s':Shared),Inv X pins σ H s->CX X.stack H s E e s'->X.xe e s'
section
variable {X:Cx} {CX:CXT} {k:Nat} {f C:Addr} {fd:FuncData} {ps:List Str} {sp:Sp} {dvs:List V} {ds:List Value} {E:XK} {x m:Str} {p pos apos:Pos} {e o:Expr} {es:List Expr} {ta:TE} {t:TA}
theorem b3z {pins:List (Addr×Obj)} {σ:St} {H:Hp} {s:Shared} {Q:VK} {us:List Value} {vs:List V} (F:FnOk X.prog X.w X.K X.mg X.base CX k f fd ps sp) (hr:Room k X.A) (hb:a4o X.K fd ps ds) (hd:Vals dvs ds) (hx:a9g CX X E)
  (I:Inv X pins σ H s) (r:Vals vs us) (h:sp (vs++dvs) H Q E):wpAny (model X.prog X.w) X.A (call (.ref f) us) (EP X pins σ Q) X.xe s:=by
 have r2:Vals (vs++dvs) (us++ds):=r.append hd
 have hl:(us++ds).length=ps.length:=by rw [←r2.length];exact F.len _ _ _ _ h
 refine wpAny_call (codeAny_mono (F.run X.A X.stack s H ⟨us,[]⟩ (us++ds) (vs++dvs) Q E hr I.env0 (hb s us I.kIn hl) r2 h) fun r s' hq=>?_)
 cases r with
 | error e=>exact hx pins σ H s e s' I hq
 | ok fl=>
  cases fl with
  | ret u=>exact I.after hq
  | next=>exact False.elim hq
  | brk=>exact False.elim hq
  | cont=>exact False.elim hq
theorem b2H (F:FnOk X.prog X.w X.K X.mg X.base CX k f fd ps sp) (hr:Room k X.A) (hg:Gl X x) (hm:X.mg x=some (.ref f)) (hk:keepIn X.K (.ref f)=true) (hb:a4o X.K fd ps ds) (hd:Vals dvs ds) (hx:a9g CX X E)
  (ha:PA X (e::es) t) (hdb:(x == ("__debug__" : Str))=false:=by decide) (he:starEach (e::es) X.env=(false,eval e X.env)::starEach es X.env:=by rfl) (hpl:(backTo pos (starEach es X.env)).any (·.1)=false:=by rfl):
  PE X (.Call (.Name x p) (e::es) [] pos) (tCall sp dvs E t):=by
 intro pins s σ H Q I h
 refine wpAny_Call_Name_kw (b0l I hg hm ?_ hdb)
 refine callWith_K (h₀:=X.base) I.ok.mod.kin hk (thn (ha pos pins s σ H _ I h) fun us s1 ⟨vs,H1,I1,r,q⟩=>⟨I1.kIn,?_⟩) he hpl
 exact b3z F hr hb hd hx I1 r q
structure Mk (K:Frag) (C f:Addr):Prop where
 makes:makesIn K C=true
 init:findIn K (.ref C) "__init__" = some (some (.ref f))
 fn:isFn K (.ref f)=true
 kp:keepIn K (.ref C)=true
theorem b3y {pins:List (Addr×Obj)} {σ:St} {H:Hp} {s:Shared} {Q:VK} {us:List Value} {vs:List V} (M:Mk X.K C f) (F:FnOk X.prog X.w X.K X.mg X.base CX k f fd ps sp) (hr:Room (k+1) X.A) (hb:a4o X.K fd ps ds) (hd:Vals dvs ds)
  (hx:a9g CX X E) (I:Inv X pins σ H s) (r:Vals vs us)
  (h:∀x dx,H x=none->H dx=none->dx≠x->sp (.ref x::(vs++dvs)) (upd (upd H dx (.own x)) x (.ins C dx [])) (fun v H2=>v=.non/\Q (.ref x) H2) E):
  wpAny (model X.prog X.w) X.A (call (.ref C) us) (EP X pins σ Q) X.xe s:=by
 have hq:=h (s.heap.objs.size+1) s.heap.objs.size (I.hok.fresh (le_succ _)) (I.hok.fresh (le_refl _)) (ne_of_lt (lt_succ_self _))
 have I2:=Inv.made (C:=C) I
 have r2:Vals (V.ref (s.heap.objs.size+1)::(vs++dvs)) (Value.ref (s.heap.objs.size+1)::(us++ds)):=.cons rfl (r.append hd)
 have hl:(Value.ref (s.heap.objs.size+1)::us++ds).length=ps.length:=by
  have e:=r2.length
  rw [F.len _ _ _ _ hq] at e
  exact e.symm
 refine wpAny_call (make_map (f:=f) I.kIn M.makes M.init (beq_iff_eq.mp M.fn) (codeAny_mono (F.run _ X.stack _ _ ⟨Value.ref (s.heap.objs.size+1)::us,[]⟩ (Value.ref (s.heap.objs.size+1)::(us++ds)) _ _ E (hr.make C us [])
  (I2.env0.make C us []) (hb _ (Value.ref (s.heap.objs.size+1)::us) I2.kIn hl) r2 hq) fun r s' hq'=>?_))
 cases r with
 | error e=>exact hx pins σ _ _ e s' I2 hq'
 | ok fl=>
  cases fl with
  | ret u=>
   obtain ⟨v,H',I3,rv,ev,q3⟩:=I2.after hq'
   subst ev
   exact ⟨rv,⟨V.ref (s.heap.objs.size+1),H',I3,rfl,q3⟩⟩
  | next=>exact False.elim hq'
  | brk=>exact False.elim hq'
  | cont=>exact False.elim hq'
theorem pe_make (M:Mk X.K C f) (F:FnOk X.prog X.w X.K X.mg X.base CX k f fd ps sp) (hr:Room (k+1) X.A) (hg:Gl X x) (hm:X.mg x=some (.ref C)) (hb:a4o X.K fd ps ds) (hd:Vals dvs ds) (hx:a9g CX X E)
  (ha:PA X (e::es) t) (hdb:(x == ("__debug__" : Str))=false:=by decide) (he:starEach (e::es) X.env=(false,eval e X.env)::starEach es X.env:=by rfl) (hpl:(backTo pos (starEach es X.env)).any (·.1)=false:=by rfl):
  PE X (.Call (.Name x p) (e::es) [] pos) (tMake C sp dvs E t):=by
 intro pins s σ H Q I h
 refine wpAny_Call_Name_kw (b0l I hg hm ?_ hdb)
 refine callWith_K (h₀:=X.base) I.ok.mod.kin M.kp (thn (ha pos pins s σ H _ I h) fun us s1 ⟨vs,H1,I1,r,q⟩=>⟨I1.kIn,?_⟩) he hpl
 exact b3y M F hr hb hd hx I1 r q
theorem pe_make0 (M:Mk X.K C f) (F:FnOk X.prog X.w X.K X.mg X.base CX k f fd ps sp) (hr:Room (k+1) X.A) (hg:Gl X x) (hm:X.mg x=some (.ref C)) (hb:a4o X.K fd ps ds) (hd:Vals dvs ds) (hx:a9g CX X E)
  (hdb:(x == ("__debug__" : Str))=false:=by decide):PE X (.Call (.Name x p) [] [] pos) (tMake C sp dvs E tNil):=by
 intro pins s σ H Q I h
 refine wpAny_Call_Name_kw (b0l I hg hm ?_ hdb)
 exact PySem.W.callWith_K0 I.kIn M.kp (b3y (us:=[]) M F hr hb hd hx I .nil h)
end
def PK (X:Cx) (kws:List Keyword) (t:TA):Prop:=
 ∀(pos:Pos) (pins:List (Addr×Obj)) (s:Shared) (σ:St) (H:Hp) (Q:List V->Hp->Prop),Inv X pins σ H s->t σ H Q->wpAny (model X.prog X.w) X.A (evalAll ((backToKw pos (keywordEach kws X.env)).map (·.2))) (AP X pins σ Q) X.xe s
section
variable {X:Cx} {CX:CXT} {k:Nat} {f C:Addr} {fd:FuncData} {ps ks:List Str} {sp:Sp} {E:XK} {x m:Str} {p pos apos kpos:Pos} {e o:Expr} {es:List Expr} {kws:List Keyword} {te ta:TE} {t tk:TA} {nm:Option Str}
structure KBinds (K:Frag) (fd:FuncData) (ps ks:List Str) (g:List Value->List Value->List Value) (gV:List V->List V->List V):Prop where
 to:∀(s:Shared) (us ws:List Value),K.In s.heap->(g us ws).length=ps.length->BindsTo s fd ⟨us,ks.zip ws⟩ (ps.zip (g us ws))
 rel:∀{vs:List V} {us:List Value} {zs:List V} {ws:List Value},Vals vs us->Vals zs ws->Vals (gV vs zs) (g us ws)
def tCallK (sp:Sp) (gV:List V->List V->List V) (E:XK) (t tk:TA):TE:=fun σ H Q=>t σ H fun vs H1=>tk σ H1 fun zs H2=>sp (gV vs zs) H2 Q E
variable {g:List Value->List Value->List Value} {gV:List V->List V->List V}
end
structure a0r (N P:List Str) (sc:Scope):Prop where
 kind:sc.kind=.function
 co:sc.isCoroutine=false
 gen:sc.isGenerator=false
 nd:N.Nodup
 pre:N.take P.length=P
 par:∀x∈P,sc.names.lookup x=some .local\/sc.names.lookup x=some .cell
 nofree:∀y∈sc.names,y.2≠.free
theorem b2a {kindOf:Str->Option NameKind} {x:Str}:∀{binds:List (Str×Value)} {m:Str->Option Value},(∀v,(x,v)∉binds)->bindL kindOf binds m x=m x
 | [],_,_=>rfl
 | (n,v)::r,m,h=>by
  unfold bindL
  rw [b2a fun w hw=>h w (mem_cons_of_mem _ hw)]
  split
  ·have:x≠n:=by rintro rfl;exact h v mem_cons_self
   simp [this]
  ·rfl
theorem b2c {kindOf:Str->Option NameKind} {x:Str}:∀{binds:List (Str×Value)} {m:Str->Option Value},(∀v,(x,v)∉binds)->bindC kindOf binds m x=m x
 | [],_,_=>rfl
 | (n,v)::r,m,h=>by
  unfold bindC
  rw [b2c fun w hw=>h w (mem_cons_of_mem _ hw)]
  split
  ·rfl
  ·have:x≠n:=by rintro rfl;exact h v mem_cons_self
   simp [this]
theorem b2b {kindOf:Str->Option NameKind} {x:Str} {v:Value}:∀{P:List Str} {vs:List Value} {i:Nat} {m:Str->Option Value},P.Nodup->P[i]?=some x->vs[i]?=some v->kindOf x=some .local->
  bindL kindOf (P.zip vs) m x=some v
 | [],_,_,_,_,h,_,_=>by simp at h
 | _::_,[],_,_,_,_,h,_=>by simp at h
 | p::P,w::vs,0,m,nd,h1,h2,hk=>by
  simp at h1 h2;subst h1;subst h2
  show bindL kindOf ((p,w)::P.zip vs) m p=_
  unfold bindL
  rw [b2a fun v hv=>(nodup_cons.mp nd).1 (of_mem_zip hv).1,if_pos hk]
  simp
 | p::P,w::vs,i+1,m,nd,h1,h2,hk=>by
  show bindL kindOf ((p,w)::P.zip vs) m x=_
  unfold bindL
  exact b2b (i:=i) (nodup_cons.mp nd).2 (by simpa using h1) (by simpa using h2) hk
theorem b2d {kindOf:Str->Option NameKind} {x:Str} {v:Value}:∀{P:List Str} {vs:List Value} {i:Nat} {m:Str->Option Value},P.Nodup->P[i]?=some x->vs[i]?=some v->kindOf x≠some .local->
  bindC kindOf (P.zip vs) m x=some v
 | [],_,_,_,_,h,_,_=>by simp at h
 | _::_,[],_,_,_,_,h,_=>by simp at h
 | p::P,w::vs,0,m,nd,h1,h2,hk=>by
  simp at h1 h2;subst h1;subst h2
  show bindC kindOf ((p,w)::P.zip vs) m p=_
  unfold bindC
  rw [b2c fun v hv=>(nodup_cons.mp nd).1 (of_mem_zip hv).1,if_neg hk]
  simp
 | p::P,w::vs,i+1,m,nd,h1,h2,hk=>by
  show bindC kindOf ((p,w)::P.zip vs) m x=_
  unfold bindC
  exact b2d (i:=i) (nodup_cons.mp nd).2 (by simpa using h1) (by simpa using h2) hk
def start (N:List Str) (vs:List V):St:=vs.map some++replicate (N.length - vs.length) none
def cxOf (CX:CXT) (P:Program) (w:World) (K:Frag) (mg:Str->Option Value) (base:Heap) (N:List Str) (qual:Str) (scope:Scope) (f:Addr) (cd:Value) (A:Around) (outer:List Env) (s:Shared) (H:Hp) (E:XK):Cx where
 prog:=P
 w:=w
 K:=K
 mg:=mg
 base:=base
 A:=A.deeper (envOfC qual scope s.heap.objs.size f cd)
 N:=N
 s₀:=s
 H₀:=H
 env:=envOfC qual scope s.heap.objs.size f cd
 outer:=outer
 stack:=envOfC qual scope s.heap.objs.size f cd::outer
 ex:=[]
 calm:=true
 fn:=fun _=>true
 pn:=[]
 xe:=fun e s'=>wpAny (model P w) (A.deeper (envOfC qual scope s.heap.objs.size f cd)) (leaving (envOfC qual scope s.heap.objs.size f cd) e) (fun _ s''=>CX outer H s E e s'') (fun e' s''=>CX outer H s E e' s'') s'
theorem b36 {sc:Scope} {n:Nat} {x:Str} (h:sc.names.lookup x=some .cell):∃c,(cellsFrom n sc.names []).lookup x=some c:=by
 have q:=PySem.W.cellsFrom_some sc.names n [] (.inl h)
 exact Option.isSome_iff_exists.mp q
theorem b6Y {CX:CXT} {P:Program} {w:World} {K:Frag} {mg:Str->Option Value} {base:Heap} {N ps:List Str} {qual:Str} {scope:Scope} {f:Addr} {cd:Value} {A:Around} {outer:List Env} {s s1:Shared} {H:Hp} {E:XK} {us:List Value} {vs:List V}
  (S:a0r N ps scope) (hd:A.handled=none) (e0:Env0 P w K mg base A outer s H) (hl:vs.length=ps.length) (r:Vals vs us)
  (x:InCallC s s.heap.objs.size (bindL (envOfC qual scope s.heap.objs.size f cd).kindOf (ps.zip us) fun _=>none) (cellsFrom (s.heap.objs.size+1) scope.names []) (bindC (envOfC qual scope s.heap.objs.size f cd).kindOf (ps.zip us) fun _=>none) s1):
  Inv (cxOf CX P w K mg base N qual scope f cd A outer s H E) [] (start N vs) H s1:=by
 have hpl:ps.length<=N.length:=by have:=congrArg List.length S.pre;rw [length_take] at this;omega
 obtain ⟨h1,tk,rfl,hk⟩:=x.done
 have noA:∀b:Addr,b∉(cxOf CX P w K mg base N qual scope f cd A outer s H E).ex:=fun b z=>absurd (show b∈([]:List Addr) from z) (by simp)
 refine ⟨⟨e0.mod,S.kind,rfl,rfl,le_refl _,fun y z c h1 h2=>?_,fun y hy=>?_,fun y c _ h=>?_,fun _=>hd,Around.frames_deeper e0.frames,.inr ⟨rfl,rfl⟩,fun b z=>absurd z (noA b),e0.bs,e0.bsz,fun b _ _=>noA b,fun b z=>absurd z (noA b),e0.funs,e0.frf⟩,
  rfl,e0.bare,Un.kept hk,⟨_,x.toInCall.ns,fun i y v h1 h2 h3=>?_⟩,fun y c h=>⟨_,x.cell y c h⟩,e0.hok.fresh (le_refl _),fun y c h=>?_,fun p hp=>absurd (show p∈([]:List (Addr×Obj)) from hp) (by simp),e0.hok.kept hk,?_⟩
 ·exact name_of_addr x.apart (PySem.mem_of_lookup h1) (PySem.mem_of_lookup h2)
 ·have hy:scope.names.lookup y=some .cell\/scope.names.lookup y=some .free:=hy
  rcases hy with hy|hy
  ·exact b36 hy
  ·exact absurd rfl (S.nofree _ (PySem.mem_of_lookup hy))
 ·exact le_of_lt (x.above y c (PySem.mem_of_lookup h))
 ·have hi:i<vs.length:=by
   unfold start at h2
   by_cases hi:i<vs.length
   ·exact hi
   ·rw [getElem?_append_right (by simpa using hi)] at h2
    rw [getElem?_replicate] at h2
    split at h2 <;> cases h2
  have ha:vs[i]?=some v:=by
   unfold start at h2
   rw [getElem?_append_left (by simpa using hi),getElem?_map] at h2
   cases e:vs[i]? with
   | none=>rw [e] at h2;cases h2
   | some a=>rw [e] at h2;cases h2;rfl
  obtain ⟨u,hu,rv⟩:=r.get ha
  have hp:ps[i]?=some y:=by
   rw [←S.pre,List.getElem?_take_of_lt (by omega)];exact h1
  have ndP:ps.Nodup:=by rw [←S.pre];exact S.nd.sublist (List.take_sublist _ _)
  refine ⟨u,rv,?_⟩
  rcases S.par y (mem_of_getElem? hp) with k|k
  ·exact .inl ⟨k,b2b ndP hp hu k⟩
  ·obtain ⟨c,e⟩:=b36 (n:=s.heap.objs.size+1) k
   refine .inr ⟨.inl k,c,e,?_⟩
   have q:=x.cell y c e
   rw [b2d ndP hp hu (by show scope.names.lookup y≠_;rw [k];decide)] at q
   exact q
 ·exact e0.hok.fresh (le_of_lt (x.above y c (PySem.mem_of_lookup h)))
 ·unfold start
  show _=N.length
  rw [length_append,length_map,length_replicate]
  omega
theorem fn_of {CX:CXT} {P:Program} {w:World} {K:Frag} {mg:Str->Option Value} {base:Heap} {k:Nat} {f:Addr} {name qual:Str} {params:Arguments} {body:List Stmt} {scope:Scope} {dV kV doc pm cdv ct oc:Value} {an od:Option Addr}
  {osl:Array (Option Value)} {N ps:List Str} {sp:Sp} (lk:K.lookup f=some ⟨oc,od,.func (fnOf name qual params body scope dV kV doc pm an cdv ct),osl⟩) (hcd:codeIn K cdv qual=true) (S:a0r N ps scope)
  (len:∀vs H Q E,sp vs H Q E->vs.length=ps.length)
  (hbody:∀(A:Around) (outer:List Env) (s:Shared) (H:Hp) (vs:List V) (Q:VK) (E:XK),Room k (A.deeper (envOfC qual scope s.heap.objs.size f cdv))->sp vs H Q E->
   ∃t,PSs (cxOf CX P w K mg base N qual scope f cdv A outer s H E) body t/\t { nx:=fun _ H'=>Q .non H',rt:=Q } (start N vs) H):
  FnOk P w K mg base CX (k+1) f (fnOf name qual params body scope dV kV doc pm an cdv ct) ps sp:=by
 refine ⟨len,fun A outer s H args us vs Q E hr e0 hb r hsp=>?_⟩
 have hl:=len _ _ _ _ hsp
 have KX:K.In s.heap:=e0.mod.kin.keeps fun b o e=>(e0.bs b o e).1
 have lim:s.heap.NoLimit:=e0.mod.nolimit.keeps fun b o e=>(e0.bs b o e).1
 have hkind:∀y∈ps.zip us,scope.names.lookup y.1=some .local\/(scope.names.lookup y.1=some .cell/\((cellsFrom (s.heap.objs.size+1) scope.names []).lookup y.1).isSome=true):=fun ⟨n,v⟩ hy=>by
  rcases S.par n (of_mem_zip hy).1 with q|q
  ·exact .inl q
  ·exact .inr ⟨q,PySem.W.cellsFrom_some _ _ _ (.inl q)⟩
 refine codeAny_call_function hr.depth (KX _ _ lk) rfl S.co S.gen rfl (PySem.W.codeRec_of KX hcd) (hb _ _ _ _ ?_)
 refine wpAny_newFunctionEnv_cells S.kind hkind fun env he s1 x=>?_
 subst he
 refine ⟨lim.keeps x.toInCall.keep,codeAny_func ?_⟩
 obtain ⟨t,ht,hq⟩:=hbody A outer s H vs Q E (hr.deeper _) hsp
 have I:Inv (cxOf CX P w K mg base N qual scope f cdv A outer s H E) [] (start N vs) H s1:=b6Y S hr.hd e0 hl r x
 refine wpAny_mono (ht [] s1 (start N vs) H _ I hq) (fun fl s' hs=>?_) fun e s' hs=>hs
 have fin:∀{σ':St} {H':Hp} {v:V} {u:Value},Inv (cxOf CX P w K mg base N qual scope f cdv A outer s H E) [] σ' H' s'->RelV v u->Q v H'->CE outer P w H s Q u s':=
  fun {σ' H' v u} J rv q=>⟨v,H',J.os,J.bare,J.base,J.hok,rv,q⟩
 cases fl with
 | ret u=>
  obtain ⟨v,σ',H',J,rv,q⟩:=hs
  exact fin J rv q
 | next=>
  obtain ⟨σ',H',J,q⟩:=hs
  exact fin (v:=V.non) (u:=Value.none) J rfl q
 | brk=>
  obtain ⟨_,_,_,q⟩:=hs
  exact False.elim q
 | cont=>
  obtain ⟨_,_,_,q⟩:=hs
  exact False.elim q
section
variable {X:Cx} {x:Str} {p pos:Pos} {e:Expr} {es:List Expr} {t:TA} {id T:String} {r:List V->Hp->VK->Prop}
def tCB (r:List V->Hp->VK->Prop) (t:TA):TE:=fun σ H Q=>t σ H fun vs H1=>r vs H1 Q
theorem a6l (hc:a2M X (.builtin id) r) (hg:Gl X x) (hm:X.mg x=none) (hv:bootBuiltins x=some (.builtin id)) (ha:PA X (e::es) t) (hn:x ≠ "__name__" := by decide) (hdb:(x == ("__debug__" : Str))=false:=by decide)
  (he:starEach (e::es) X.env=(false,eval e X.env)::starEach es X.env:=by rfl) (hpl:(backTo pos (starEach es X.env)).any (·.1)=false:=by rfl):PE X (.Call (.Name x p) (e::es) [] pos) (tCB r t):=by
 intro pins s σ H Q I h
 refine wpAny_Call_Name_kw (a84 I hg hm hv ?_ hn hdb)
 exact PyProof.Rows.callWith_builtin1 (thn (ha pos pins s σ H _ I h) fun us s1 ⟨vs,H1,I1,r1,q1⟩=>hc pins s1 σ H1 vs us Q I1 r1 q1) he hpl
theorem a6k (hc:a2M X (.type T) r) (hg:Gl X x) (hm:X.mg x=none) (hv:bootBuiltins x=some (.type T)) (ha:PA X (e::es) t) (hn:x ≠ "__name__" := by decide) (hdb:(x == ("__debug__" : Str))=false:=by decide)
  (he:starEach (e::es) X.env=(false,eval e X.env)::starEach es X.env:=by rfl) (hpl:(backTo pos (starEach es X.env)).any (·.1)=false:=by rfl):PE X (.Call (.Name x p) (e::es) [] pos) (tCB r t):=by
 intro pins s σ H Q I h
 refine wpAny_Call_Name_kw (a84 I hg hm hv ?_ hn hdb)
 exact PyProof.Rows.callWith_type1 (thn (ha pos pins s σ H _ I h) fun us s1 ⟨vs,H1,I1,r1,q1⟩=>hc pins s1 σ H1 vs us Q I1 r1 q1) he hpl
end
end L2
namespace HT
open PySem PyProof.Rows
def lexLt:List Int->List Int->Bool
 | [],[]=>false
 | [],_::_=>true
 | _::_,[]=>false
 | x::xs,y::ys=>if x=y then lexLt xs ys else decide (x<y)
section
open PySem.SeqAt
open PySem.AutoSeq1 (wpAny_loadPart')
open PySem.MeetsSeq PySem.MeetsSeq2 PySem.MeetsSeq3
end
section
variable {prog:Program} {w:World} {A:Around} {E:Value->Shared->Prop} {s:Shared}
theorem cat_tup {t b:Addr} {vs ws:List Value} {Q:Value->Shared->Prop} (ht:IsTup s.heap t vs.toArray) (hb:IsTup s.heap b ws.toArray) (hv:vs≠[])
  (h1:ws=[]->Q (.ref t) s) (h2:ws≠[]->Q (.ref s.heap.objs.size) { s with heap:=s.heap.push { cls:=.type "tuple",data:=.seq (vs++ws).toArray } })
  (hsz:vs.length+ws.length<=sizeLine):wpAny (model prog w) A (binaryOp .Add (.ref t) (.ref b)) Q E s:=by
 obtain ⟨⟨cls,dd,data,sl⟩,ho,hc,n,hd⟩:=id ht
 obtain ⟨⟨cls2,dd2,data2,sl2⟩,ho2,hc2,n2,hd2⟩:=id hb
 simp only at hc hd hc2 hd2
 subst hc hd hc2 hd2
 have e:vs.toArray++ws.toArray=(vs++ws).toArray:=by simp
 by_cases hw:ws=[]
 ·exact concat_meets ⟨_,ho,rfl⟩ ⟨_,ho2,rfl⟩ noFill_tuple_add seq_tuple_add PySem.F.slot_tuple_add PySem.F.entry_tuple_add (PySem.F.args_tuple_add_2 _ _)
   (tuple_addW1 t b vs.toArray ws.toArray n n2 dd dd2 sl sl2 (by simpa using hv) (by simp [hw])) ⟨ho,ho2,h1 hw⟩
 ·refine concat_meets ⟨_,ho,rfl⟩ ⟨_,ho2,rfl⟩ noFill_tuple_add seq_tuple_add PySem.F.slot_tuple_add PySem.F.entry_tuple_add (PySem.F.args_tuple_add_2 _ _)
   (tuple_addW2 t b vs.toArray ws.toArray n n2 dd dd2 sl sl2 (by simpa using hv) (by simpa using hw) (by rw [size_toArray,size_toArray];exact hsz)) ⟨ho,ho2,?_⟩
  rw [e]
  exact h2 hw
def sIx (n d:Nat):Option Int->Nat
 | none=>d
 | some v=>if v<0 then (v+(n:Int)).toNat else min v.toNat n
theorem sIx_le (n d:Nat) (hd:d<=n) (o:Option Int):sIx n d o<=n:=by
 cases o with
 | none=>exact hd
 | some v=>
  show (if v<0 then (v+(n:Int)).toNat else min v.toNat n)<=n
  by_cases hv:v<0
  ·rw [if_pos hv];omega
  ·rw [if_neg hv];exact Nat.min_le_right _ _
theorem b7l (v:Int) (n d:Nat):(if v<0 then max (v+(n:Int)) 0 else min v (n:Int))=((sIx n d (some v):Nat):Int):=by
 show (if v<0 then max (v+(n:Int)) 0 else min v (n:Int))=(((if v<0 then (v+(n:Int)).toNat else min v.toNat n):Nat):Int)
 by_cases hv:v<0
 ·simp only [if_pos hv];omega
 ·simp only [if_neg hv];omega
theorem b5r (lo hi:Option Int) (n:Nat):Builtin.Slice.sliceAdjust lo hi 1 (n:Int)=(((sIx n 0 lo:Nat):Int),((sIx n n hi:Nat):Int)):=by
 have h1:¬((1:Int)<0):=by omega
 unfold Builtin.Slice.sliceAdjust
 simp only [h1,if_false]
 refine Prod.ext ?_ ?_
 ·cases lo with
  | none=>rfl
  | some v=>exact b7l v n 0
 ·cases hi with
  | none=>rfl
  | some v=>exact b7l v n n
theorem b4B (i j:Nat):Builtin.Slice.slicePlaces (i:Int) (j:Int) 1=j - i:=by
 unfold Builtin.Slice.slicePlaces
 have h1:(1:Int) > 0:=by omega
 simp only [h1,if_true,Int.ediv_one]
 split <;> omega
theorem a8T {v:Value} {o:Option Int} {Q:Option Int->Shared->Prop} (p:IsPart v o) (h:Q o s):wpAny (model prog w) A (Builtin.Slice.slicePartIndex v) Q E s:=by
 cases p with
 | none=>exact slicePart_none h
 | int i t=>exact slicePart_int h
theorem a7p {sl:Addr} {vl vu:Value} {lo hi:Option Int} {n:Nat} {Q:Int×Int×Nat->Shared->Prop} (hs:s.heap.IsSliceOf sl vl vu .none) (pl:IsPart vl lo) (pu:IsPart vu hi)
  (h:Q (((sIx n 0 lo:Nat):Int),1,sIx n n hi - sIx n 0 lo) s):wpAny (model prog w) A (Builtin.Slice.sliceApplied (.ref sl) (pure (n:Int))) Q E s:=by
 obtain ⟨os,hos,hcs,hds⟩:=id hs
 unfold Builtin.Slice.sliceApplied Builtin.Slice.sliceFields
 refine wpAny_bind (wpAny_bind (wpAny_field hos hds (x:=vl) rfl (wpAny_bind (wpAny_field hos hds (x:=vu) rfl (wpAny_bind (wpAny_field hos hds (x:=.none) rfl (wpAny_pure ?_)))))))
 refine wpAny_bind (slicePart_none ?_)
 show wpAny _ _ (if ((1:Int) == 0)=true then _ else _) _ _ s
 rw [if_neg (by decide)]
 refine wpAny_bind (a8T pl (wpAny_bind (a8T pu (wpAny_bind (wpAny_pure ?_)))))
 show wpAny _ _ (match Builtin.Slice.sliceAdjust lo hi 1 (n:Int) with|(lo,hi)=>pure (lo,(1:Int),Builtin.Slice.slicePlaces lo hi 1)) _ _ s
 rw [b5r lo hi n]
 show wpAny _ _ (pure (((sIx n 0 lo:Nat):Int),(1:Int),Builtin.Slice.slicePlaces ((sIx n 0 lo:Nat):Int) ((sIx n n hi:Nat):Int) 1)) _ _ s
 rw [b4B]
 exact wpAny_pure h
theorem pick_gen (xs:Array Value) (i k:Nat):((List.range k).filterMap fun (m:Nat)=>xs[((i:Int)+(m:Int) * 1).toNat]?).toArray=((xs.toList.drop i).take k).toArray:=by
 have e:(fun (m:Nat)=>xs[((i:Int)+(m:Int) * 1).toNat]?)=fun m=>xs[i+m]?:=by
  funext m
  have:((i:Int)+(m:Int) * 1).toNat=i+m:=by omega
  rw [this]
 rw [e]
 have:=pick_run xs i k
 rw [List.filterMap_map] at this
 have e2:((fun x=>xs[x]?) ∘ fun x=>i+x)=fun m=>xs[i+m]?:=rfl
 rw [e2] at this
 rw [this]
theorem getItem_tuple_cut {t sl:Addr} {items:Array Value} {vl vu:Value} {lo hi:Option Int} {Q:Value->Shared->Prop} (ht:IsTup s.heap t items) (hs:s.heap.IsSliceOf sl vl vu .none) (pl:IsPart vl lo) (pu:IsPart vu hi)
  (hw:¬(sIx items.size 0 lo=0/\sIx items.size items.size hi=items.size))
  (h:Q (.ref s.heap.objs.size) { s with heap:=s.heap.push { cls:=.type "tuple",data:=.seq ((items.toList.drop (sIx items.size 0 lo)).take (sIx items.size items.size hi - sIx items.size 0 lo)).toArray } })
  (hsz:items.size<=sizeLine):wpAny (model prog w) A (getItem (.ref t) (.ref sl)) Q E s:=by
 have htake:sizeOk (.seq ((items.toList.drop (sIx items.size 0 lo)).take (sIx items.size items.size hi - sIx items.size 0 lo)).toArray):=by
  show ((items.toList.drop (sIx items.size 0 lo)).take (sIx items.size items.size hi - sIx items.size 0 lo)).toArray.size<=sizeLine
  rw [size_toArray,length_take,length_drop,length_toList]
  omega
 have hj:sIx items.size items.size hi<=items.size:=sIx_le _ _ (le_refl _) hi
 obtain ⟨os,hos,hcs,hds⟩:=id hs
 have hTs:s.TypeIs (.ref sl) "slice" := ⟨os,hos,hcs⟩
 unfold getItem
 try with_reducible refine wpAny_holding ?_
 first|refine wpAny_bind (wpAny_pure ?_)|skip
 refine wpAny_bind (wpAny_sequenceKey ht.typeIs (by decide) ?_)
 refine wpAny_bind (wpAny_callSpecial?_slot (name:=Str.ofString "__getitem__") ht.typeIs PyProof.Rows.slot_tuple_getitem
  (wpAny_call_entry PyProof.Rows.slot_tuple_getitem ht.typeIs entry_tuple_getitem ?_ (args_tuple_getitem _ _)))
 show wpAny _ _ (Builtin.Tuple.tupleItemsOf (.ref t) >>= _) _ _ s
 refine wpAny_bind (tupleItemsOf_ ht ?_)
 refine wpAny_bind (wpAny_typeOf hTs ?_)
 rw [if_pos (by decide)]
 refine wpAny_bind (a7p hs pl pu ?_)
 have hno:¬((((sIx items.size 0 lo:Nat):Int) == 0 && (1:Int) == 1 && (sIx items.size items.size hi - sIx items.size 0 lo) == items.size)=true):=by
  intro q
  rw [and_eq_true,and_eq_true] at q
  have q1:((sIx items.size 0 lo:Nat):Int)=0:=eq_of_beq q.1.1
  have q2:sIx items.size items.size hi - sIx items.size 0 lo=items.size:=eq_of_beq q.2
  exact hw ⟨by omega,by omega⟩
 show wpAny _ _ (if (((sIx items.size 0 lo:Nat):Int) == 0 && (1:Int) == 1 && (sIx items.size items.size hi - sIx items.size 0 lo) == items.size)=true then _ else _) _ _ s
 rw [if_neg hno,pick_gen]
 first
  | exact wpAny_bind (m:=Builtin.Tuple.tupleExact _) (wpAny_newObj_type (wpAny_pure ⟨_,rfl,wpAny_pure h⟩) htake)
  | exact wpAny_bind (m:=Builtin.Tuple.tupleExact _) (wpAny_newObj_type (wpAny_bind (wpAny_pure (wpAny_pure ⟨_,rfl,wpAny_pure h⟩))) htake)
  | exact wpAny_bind (wpAny_bind (m:=Builtin.Tuple.tupleExact _) (wpAny_newObj_type (wpAny_pure (wpAny_pure ⟨_,rfl,wpAny_pure h⟩)) htake))
  | exact wpAny_bind (wpAny_bind (m:=Builtin.Tuple.tupleExact _) (wpAny_newObj_type (wpAny_pure ⟨_,rfl,wpAny_pure h⟩) htake))
end
end HT
namespace L2
open PySem PySem.Spec PyProof.Rows
abbrev TO:=St->Hp->(Option Int->Hp->Prop)->Prop
def PO (X:Cx) (e:Option Expr) (t:TO):Prop:=
 ∀(pins:List (Addr×Obj)) (s:Shared) (σ:St) (H:Hp) (Q:Option Int->Hp->Prop),Inv X pins σ H s->t σ H Q->
  wpAny (model X.prog X.w) X.A (evalPart e X.env) (fun u s'=>∃o H',Inv X pins σ H' s'/\IsPart u o/\Q o H') X.xe s
def b5K:TO:=fun _ H Q=>Q none H
def tPart (t:TE):TO:=fun σ H Q=>t σ H fun x H1=>∃i,x=.int i/\Q (some i) H1
theorem b43 {ns:List Int}:∀{us:List Value},Vals (ns.map V.int) us->IntsAre us ns:=by
 induction ns with
 | nil=>intro us r;rw [map_nil] at r;cases r;exact .nil
 | cons n ns ih=>
  intro us r
  rw [map_cons] at r
  cases r with
  | cons r1 r2=>
   obtain ⟨t,e⟩:=r1
   subst e
   exact .cons n t (ih r2)
section
variable {X:Cx} {e:Expr} {te:TE} {lo hi:Option Expr} {tl th:TO} {pos p2:Pos}
theorem po_none:PO X none b5K:=by
 intro pins s σ H Q I h
 rw [evalPart_none]
 exact wpAny_pure ⟨none,H,I,.none,h⟩
theorem po_some (h:PE X e te):PO X (some e) (tPart te):=by
 intro pins s σ H Q I hw
 rw [evalPart_some]
 refine thn (h pins s σ H _ I hw) fun u s1 ⟨x,H1,I1,r1,q1⟩=>?_
 obtain ⟨i,rfl,q⟩:=q1
 obtain ⟨t,rfl⟩:=r1
 exact ⟨some i,H1,I1,.int i t,q⟩
def SlR (X:Cx) (r:V->Option Int->Option Int->Hp->VK->Prop):Prop:=
 ∀(pins:List (Addr×Obj)) (s:Shared) (σ:St) (H:Hp) (x:V) (v vl vu:Value) (lo hi:Option Int) (sl:Addr) (Q:VK),Inv X pins σ H s->RelV x v->s.heap.IsSliceOf sl vl vu .none->IsPart vl lo->IsPart vu hi->r x lo hi H Q->
  ∃T id,typeLookup (.type T) "__getitem__" = pure (some (.builtin id))/\s.TypeIs v T/\wpAny (model X.prog X.w) X.A (getItem v (.ref sl)) (EP X pins σ Q) X.xe s
theorem SlR.or {r r':V->Option Int->Option Int->Hp->VK->Prop} (h:SlR X r) (h':SlR X r'):SlR X (fun x lo hi H Q=>r x lo hi H Q\/r' x lo hi H Q):=by
 intro pins s σ H x v vl vu lo hi sl Q I rx hs pl pu q
 rcases q with q|q
 ·exact h pins s σ H x v vl vu lo hi sl Q I rx hs pl pu q
 ·exact h' pins s σ H x v vl vu lo hi sl Q I rx hs pl pu q
def tSl (r:V->Option Int->Option Int->Hp->VK->Prop) (te:TE) (tl th:TO):TE:=fun σ H Q=>te σ H fun x H1=>tl σ H1 fun l H2=>th σ H2 fun u H3=>r x l u H3 Q
theorem pe_slice {r:V->Option Int->Option Int->Hp->VK->Prop} (hr:SlR X r) (he:PE X e te) (hl:PO X lo tl) (hu:PO X hi th):PE X (.Subscript e (.Slice lo hi none p2) pos) (tSl r te tl th):=by
 intro pins s σ H Q I h
 refine Subscript_ (thn (he pins s σ H _ I h) fun v s1 ⟨x,H1,I1,r1,q1⟩=>?_)
 refine wpAny_Slice (thn (hl pins s1 σ H1 _ I1 q1) fun vl s2 ⟨l,H2,I2,pl,q2⟩=>thn (hu pins s2 σ H2 _ I2 q2) fun vu s3 ⟨u,H3,I3,pu,q3⟩=>?_)
 rw [evalPart_none]
 refine wpAny_pure ?_
 have I4:Inv X pins σ H3 { s3 with heap:=s3.heap.push { cls:=.type "slice",data:=.fields #[vl,vu,.none] } }:=I3.kept (t':=s3.toks) fun b ob q=>get?_push_of_some _ q
 obtain ⟨T,id,hT,ht,hg⟩:=hr pins { s3 with heap:=s3.heap.push { cls:=.type "slice",data:=.fields #[vl,vu,.none] } } σ H3 x v vl vu l u s3.heap.objs.size Q I4 r1 (Heap.IsSliceOf.new ..) pl pu q3
 show wpAny (model X.prog X.w) X.A (subscriptTail e (.Slice lo hi none p2) v (.ref s3.heap.objs.size)) (EP X pins σ Q) X.xe { s3 with heap:=s3.heap.push { cls:=.type "slice",data:=.fields #[vl,vu,.none] } }
 exact tail_any (ops:=[.ref s3.heap.objs.size,v]) ht hT hg (by with_unfolding_all rfl)
def cutV (xs:List V) (lo hi:Option Int):List V:=(xs.drop (HT.sIx xs.length 0 lo)).take (HT.sIx xs.length xs.length hi - HT.sIx xs.length 0 lo)
theorem a8e (xs:List V) (lo hi:Option Int):(cutV xs lo hi).length<=xs.length:=by
 unfold cutV
 rw [length_take,length_drop]
 omega
def rSlT (K:Frag):V->Option Int->Option Int->Hp->VK->Prop:=fun x lo hi H Q=>∃a xs,x=.ref a/\SqT K H a xs/\
 ¬(HT.sIx xs.length 0 lo=0/\HT.sIx xs.length xs.length hi=xs.length)/\∀p,H p=none->Q (.ref p) (upd H p (.tup (cutV xs lo hi)))
theorem sl_tup:SlR X (rSlT X.K):=by
 intro pins s σ H x v vl vu lo hi sl Q I rx hs pl pu h
 obtain ⟨a,xs,rfl,hx,hw,q⟩:=h
 cases rx
 obtain ⟨its,r,ht,hz⟩:=I.tuple hx
 have hlen:its.toArray.size=xs.length:=by rw [size_toArray];exact r.length.symm
 refine ⟨"tuple",_,PyProof.Rows.slot_tuple_getitem.lookup,ht.typeIs,?_⟩
 refine HT.getItem_tuple_cut ht hs pl pu (by rw [hlen];exact hw) ?_ (by rw [hlen];exact hz)
 rw [hlen]
 refine ⟨.ref s.heap.objs.size,_,I.laid (t':=s.toks) (o:=.tup (cutV xs lo hi)) (fun b ob q=>get?_push_of_some _ q) (le_refl _) ?_,rfl,q _ (I.hok.fresh (le_refl _))⟩
 exact ⟨le_trans (a8e xs lo hi) hz,_,(r.drop (HT.sIx xs.length 0 lo)).take (HT.sIx xs.length xs.length hi - HT.sIx xs.length 0 lo),IsTup.new _ _⟩
def rLtT (K:Frag):R2:=fun x y H Q=>∃a b ns ms,x=.ref a/\y=.ref b/\SqT K H a (ns.map V.int)/\SqT K H b (ms.map V.int)/\Q (.bl (HT.lexLt ns ms)) H
def rCatT (K:Frag):R2:=fun x y H Q=>∃a b xs ys,x=.ref a/\y=.ref b/\SqT K H a xs/\SqT K H b ys/\xs≠[]/\xs.length+ys.length<=sizeLine/\
 (ys=[]->Q (.ref a) H)/\(ys≠[]->∀p,H p=none->Q (.ref p) (upd H p (.tup (xs++ys))))
theorem Vals.nil_iff {xs:List V} {us:List Value} (r:Vals xs us):us=[]↔xs=[]:=by
 cases r with
 | nil=>simp
 | cons _ _=>simp
theorem op_catT:OpR X (binaryOp .Add) (rCatT X.K):=by
 intro pins s σ H x y v u Q I rx ry h
 obtain ⟨a,b,xs,ys,rfl,rfl,ha,hb,hx,hz,q1,q2⟩:=h
 cases rx
 cases ry
 obtain ⟨its,r1,p1,_⟩:=I.tuple ha
 obtain ⟨its2,r2,p2,_⟩:=I.tuple hb
 refine HT.cat_tup p1 p2 (fun z=>hx (r1.nil_iff.mp z)) (fun z=>⟨.ref a,H,I,rfl,q1 (r2.nil_iff.mp z)⟩) (fun z=>?_) (by rw [←r1.length,←r2.length];exact hz)
 refine ⟨.ref s.heap.objs.size,_,I.laid (t':=s.toks) (o:=.tup (xs++ys)) (fun b ob q=>get?_push_of_some _ q) (le_refl _) ?_,rfl,q2 (fun w=>z (r2.nil_iff.mpr w)) _ (I.hok.fresh (le_refl _))⟩
 exact ⟨by rw [length_append];exact hz,_,r1.append r2,IsTup.new _ _⟩
end
def ixN (n:Nat) (i:Int):Option Nat:=if 0<=i then (if i<n then some i.toNat else none) else if -(n:Int)<=i then some (i+n).toNat else none
def atI {α:Type} (xs:List α) (i:Int):Option α:=(ixN xs.length i).bind fun j=>xs[j]?
theorem b6V {n:Nat} {i:Int} {j:Nat} (h:ixN n i=some j):seqIndex? i n=some j/\j<n/\-(n:Int)<=i/\i<n:=by
 unfold ixN at h
 by_cases h0:0<=i
 ·rw [if_pos h0] at h
  by_cases h1:i<n
  ·rw [if_pos h1] at h
   have e:i.toNat=j:=Option.some.inj h
   exact ⟨by rw [seqIndex_of h0 h1,e],by omega,by omega,h1⟩
  ·rw [if_neg h1] at h;cases h
 ·rw [if_neg h0] at h
  by_cases h1:-(n:Int)<=i
  ·rw [if_pos h1] at h
   have e:(i+n).toNat=j:=Option.some.inj h
   exact ⟨by rw [seqIndex_neg (by omega) h1,e],by omega,h1,by omega⟩
  ·rw [if_neg h1] at h;cases h
theorem b3k {α:Type} {xs:List α} {i:Int} {v:α} (h:atI xs i=some v):∃j,seqIndex? i xs.length=some j/\xs[j]?=some v/\j<xs.length/\-(xs.length:Int)<=i/\i<xs.length:=by
 unfold atI at h
 cases e:ixN xs.length i with
 | none=>rw [e] at h;cases h
 | some j=>
  rw [e] at h
  obtain ⟨h1,h2,h3,h4⟩:=b6V e
  exact ⟨j,h1,h,h2,h3,h4⟩
def b3m (b:Expr):Prop:=∀o i,subscripted b false o i=operate [o,i] (getItem o i)
def IxR (X:Cx) (r:R2):Prop:=
 ∀(value slice:Expr) (pins:List (Addr×Obj)) (s:Shared) (σ:St) (H:Hp) (x y:V) (v u:Value) (Q:VK),Inv X pins σ H s->RelV x v->RelV y u->r x y H Q->
  subscripted slice false v u=operate [v,u] (getItem v u)->wpAny (model X.prog X.w) X.A (subscriptTail value slice v u) (EP X pins σ Q) X.xe s
def MtR (X:Cx) (id:String) (r:V->List V->Hp->VK->Prop):Prop:=
 ∀(pins:List (Addr×Obj)) (s:Shared) (σ:St) (H:Hp) (x:V) (xs:List V) (v:Value) (us:List Value) (Q:VK),Inv X pins σ H s->RelV x v->Vals xs us->r x xs H Q->
  wpAny (model X.prog X.w) X.A (call (.builtin id) (v::us)) (EP X pins σ Q) X.xe s
section
variable {X:Cx} {a b:Expr} {ta tb:TE} {pos:Pos}
theorem IxR.or {r r':R2} (h:IxR X r) (h':IxR X r'):IxR X (fun x y H Q=>r x y H Q\/r' x y H Q):=by
 intro value slice pins s σ H x y v u Q I rx ry q hs
 rcases q with q|q
 ·exact h value slice pins s σ H x y v u Q I rx ry q hs
 ·exact h' value slice pins s σ H x y v u Q I rx ry q hs
theorem MtR.or {id:String} {r r':V->List V->Hp->VK->Prop} (h:MtR X id r) (h':MtR X id r'):MtR X id (fun x xs H Q=>r x xs H Q\/r' x xs H Q):=by
 intro pins s σ H x xs v us Q I rx rs q
 rcases q with q|q
 ·exact h pins s σ H x xs v us Q I rx rs q
 ·exact h' pins s σ H x xs v us Q I rx rs q
theorem pe_ix {r:R2} (hr:IxR X r) (ha:PE X a ta) (hb:PE X b tb) (hs:b3m b):PE X (.Subscript a b pos) (tOp r ta tb):=by
 intro pins s σ H Q I h
 exact Subscript_ (binT ha hb I h fun v u s2 x y H2 I2 rx ry q=>hr a b pins s2 σ H2 x y v u Q I2 rx ry q (hs _ _))
def rIxL (K:Frag):R2:=fun x y H Q=>∃p xs i v,x=.ref p/\y=.int i/\SqL K H p xs/\atI xs i=some v/\Q v H
def rIxT (K:Frag):R2:=fun x y H Q=>∃p xs i v,x=.ref p/\y=.int i/\SqT K H p xs/\atI xs i=some v/\Q v H
def rIxS:R2:=fun x y H Q=>∃z i c,x=.str z/\y=.int i/\z.length<=sizeLine/\atI z.cps.toList i=some c/\Q (.str ⟨#[c]⟩) H
theorem ix_list:IxR X (rIxL X.K):=by
 intro value slice pins s σ H x y v u Q I rx ry h hs
 obtain ⟨p,xs,i,z,rfl,rfl,hq,he,q⟩:=h
 cases rx
 obtain ⟨t,rfl⟩:=ry
 obtain ⟨its,r,pl,hz⟩:=I.list hq
 obtain ⟨j,h1,h2,h3,h4,h5⟩:=b3k he
 obtain ⟨w,ew,rw'⟩:=r.get h2
 have hl:=r.length
 have hn:=a83
 have fin:EP X pins σ Q w s:=⟨z,H,I,rw',q⟩
 by_cases h0:0<=i
 ·have hj:i.toNat=j:=by
   rw [seqIndex_of h0 h5] at h1
   exact Option.some.inj h1
  exact item_listR pl.isList h0 (by omega) (by rw [hj];simpa using ew) fin hs
 ·have hj:(i+(its.toArray.size:Int)).toNat=j:=by
   rw [seqIndex_neg (by omega) h4] at h1
   rw [size_toArray,←hl]
   exact Option.some.inj h1
  exact subscriptTail_builtinR (x:=w) pl.isList.typeIs slot_list_getitem.lookup
   (wpAny_getItem_list_neg (Q:=fun r s'=>r=w/\EP X pins σ Q r s') pl.isList (by omega) (by rw [size_toArray] <;> omega) (by omega) (by rw [hj];simpa using ew) ⟨rfl,fin⟩) hs
theorem ix_tup:IxR X (rIxT X.K):=by
 intro value slice pins s σ H x y v u Q I rx ry h hs
 obtain ⟨p,xs,i,z,rfl,rfl,hq,he,q⟩:=h
 cases rx
 obtain ⟨t,rfl⟩:=ry
 obtain ⟨its,r,pl,hz⟩:=I.tuple hq
 obtain ⟨j,h1,h2,h3,h4,h5⟩:=b3k he
 obtain ⟨w,ew,rw'⟩:=r.get h2
 have hl:=r.length
 have hn:=a83
 have fin:EP X pins σ Q w s:=⟨z,H,I,rw',q⟩
 exact subscriptTail_builtinR (x:=w) pl.typeIs slot_tuple_getitem.lookup
  (getItem_tuple (j:=j) (Q:=fun r s'=>r=w/\EP X pins σ Q r s') pl (by omega) (by omega) (by rw [size_toArray,←hl];exact h1) (by simpa using ew) ⟨rfl,fin⟩) hs
theorem ix_str:IxR X rIxS:=by
 intro value slice pins s σ H x y v u Q I rx ry h hs
 obtain ⟨z,i,c,rfl,rfl,hz,he,q⟩:=h
 obtain ⟨t,rfl⟩:=rx
 obtain ⟨t',rfl⟩:=ry
 obtain ⟨j,h1,h2,h3,h4,h5⟩:=b3k he
 have hl:z.cps.toList.length=z.length:=by simp [Str.length]
 rw [hl] at h1 h4 h5
 have hn:=a83
 exact tail_any (typeIs_str s z t) slot_str_getitem.lookup (getItem_str (c:=c) (by
  have e1:decide (i < -(2 ^ 63:Int))=false:=decide_eq_false (by omega)
  have e2:decide (i ≥ 2 ^ 63)=false:=decide_eq_false (by omega)
  rw [e1,e2,Bool.or_false]) (by rw [h1];simpa using h2) ⟨.str ⟨#[c]⟩,H,I.tok _,⟨_,rfl⟩,q⟩) hs
def rIx (K:Frag):R2:=fun x y H Q=>rIxL K x y H Q\/rIxT K x y H Q\/rIxS x y H Q
theorem b4R (its:List Value) (n j:Nat) (u:Value):Obj.mapSeq (·.setIfInBounds j u) { cls:=.type "list",data:=.seq its.toArray n }={ cls:=.type "list",data:=.seq (its.set j u).toArray n }:=by
 simp [Obj.mapSeq]
theorem Inv.lst {pins:List (Addr×Obj)} {σ:St} {H:Hp} {s:Shared} {p:Addr} {xs:List V} (I:Inv X pins σ H s) (h:H p=some (.lst xs)):
  ∃(its:List Value) (n:Nat),Vals xs its/\s.heap.get? p=some { cls:=.type "list",data:=.seq its.toArray n }/\xs.length<=sizeLine:=by
 obtain ⟨z,its,n,r,e⟩:=I.hok p _ h
 exact ⟨its,n,r,e,z⟩
theorem Inv.lstUpd {pins:List (Addr×Obj)} {σ:St} {H:Hp} {s:Shared} {p:Addr} {xs ys:List V} {its its':List Value} {n n':Nat} {f:Obj->Obj} (I:Inv X pins σ H s) (h:H p=some (.lst xs))
  (ho:s.heap.get? p=some { cls:=.type "list",data:=.seq its.toArray n }) (hf:f { cls:=.type "list",data:=.seq its.toArray n }={ cls:=.type "list",data:=.seq its'.toArray n' }) (r:Vals ys its') (hz:ys.length<=sizeLine) (t:Nat):
  Inv X pins σ (upd H p (.lst ys)) { s with heap:=s.heap.update p f,toks:=t }:=by
 have e:(s.heap.update p f).get? p=some { cls:=.type "list",data:=.seq its'.toArray n' }:=by
  rw [get?_update_self f ho (by rw [hf] <;> rfl),hf]
 refine I.write (x:=p) (e:=p) (by rw [h];trivial) (.inl rfl) (fun b u hb q=>(get?_update_other _ _ (Ne.symm hb)).trans q) ⟨_,e⟩ ?_
 exact ⟨hz,its',n',r,e⟩
def rSetL:V->V->V->Hp->(Hp->Prop)->Prop:=fun o i v H Q=>∃p xs k j,o=.ref p/\i=.int k/\H p=some (.lst xs)/\ixN xs.length k=some j/\Q (upd H p (.lst (xs.set j v)))
theorem set_list:PSet X rSetL:=by
 intro pins s σ H o i v ov iv u Q I ro ri rv h
 obtain ⟨p,xs,k,j,rfl,rfl,hp,hj,q⟩:=h
 cases ro
 obtain ⟨t,rfl⟩:=ri
 obtain ⟨its,n,r,ho,hz⟩:=I.lst hp
 obtain ⟨h1,h2,h3,h4⟩:=b6V hj
 have hl:=r.length
 have hn:=a83
 have I':Inv X pins σ (upd H p (.lst (xs.set j v))) { s with heap:=s.heap.update p (Obj.mapSeq (·.setIfInBounds j u)) }:=
  I.lstUpd hp ho (b4R its n j u) (r.set rv j) (by rw [length_set];exact hz) s.toks
 by_cases h0:0<=k
 ·have hk:k.toNat=j:=by
   rw [seqIndex_of h0 h4] at h1
   exact Option.some.inj h1
  exact PySem.W.ki_setAt ho h0 (by omega) (by rw [size_toArray,←hl];exact h4) (by rw [hk];exact ⟨_,I',q⟩)
 ·have hk:(k+(its.toArray.size:Int)).toNat=j:=by
   rw [seqIndex_neg (by omega) h3] at h1
   rw [size_toArray,←hl]
   exact Option.some.inj h1
  exact PySem.W.ki_setBack ho (by omega) (by rw [size_toArray,←hl];exact h3) (by omega) (by rw [hk];exact ⟨_,I',q⟩)
theorem b0Z (lo hi:Option Int) (n:Nat):(sliceBounds lo hi none n).1=((HT.sIx n 0 lo:Nat):Int)/\(sliceBounds lo hi none n).2.1=((HT.sIx n n hi:Nat):Int)/\(sliceBounds lo hi none n).2.2=1:=by
 refine ⟨?_,?_,rfl⟩
 ·cases lo with
  | none=>simp [sliceBounds,HT.sIx]
  | some i=>
   simp only [sliceBounds,HT.sIx,Option.getD_none,show (1:Int) > 0 by decide,if_true]
   by_cases h:i<0
   ·simp only [h,if_true] <;> omega
   ·simp only [h,if_false] <;> omega
 ·cases hi with
  | none=>simp [sliceBounds,HT.sIx]
  | some i=>
   simp only [sliceBounds,HT.sIx,Option.getD_none,show (1:Int) > 0 by decide,if_true]
   by_cases h:i<0
   ·simp only [h,if_true] <;> omega
   ·simp only [h,if_false] <;> omega
theorem a9R (its:List Value) (lo hi:Option Int):slicePick its.toArray lo hi none=((its.drop (HT.sIx its.length 0 lo)).take (HT.sIx its.length its.length hi - HT.sIx its.length 0 lo)).toArray:=by
 obtain ⟨h1,h2,h3⟩:=b0Z lo hi its.toArray.size
 unfold slicePick
 rw [h1,h2,h3]
 simp only [sliceRange_one,pick_run,size_toArray] <;> rfl
def rSlL (K:Frag):V->Option Int->Option Int->Hp->VK->Prop:=fun x lo hi H Q=>∃a xs,x=.ref a/\SqL K H a xs/\∀p,H p=none->Q (.ref p) (upd H p (.lst (cutV xs lo hi)))
theorem sl_list:SlR X (rSlL X.K):=by
 intro pins s σ H x v vl vu lo hi sl Q I rx hs pl pu h
 obtain ⟨a,xs,rfl,hx,q⟩:=h
 cases rx
 obtain ⟨its,r,ht,hz⟩:=I.list hx
 have hlen:=r.length
 refine ⟨"list",_,slot_list_getitem.lookup,ht.isList.typeIs,?_⟩
 refine wpAny_getItem_list_slice ht.isList hs pl pu .none (by simp) ?_ (by rw [size_toArray] <;> omega)
 rw [a9R,←hlen]
 refine ⟨.ref s.heap.objs.size,_,I.laid (t':=s.toks) (o:=.lst (cutV xs lo hi)) (fun b ob q=>get?_push_of_some _ q) (le_refl _) ?_,rfl,q _ (I.hok.fresh (le_refl _))⟩
 exact ⟨le_trans (a8e xs lo hi) hz,_,0,(r.drop (HT.sIx xs.length 0 lo)).take (HT.sIx xs.length xs.length hi - HT.sIx xs.length 0 lo),get?_push_size _ rfl⟩
def flatV:V->Bool
 | .non=>true
 | .bl _=>true
 | .int _=>true
 | .str _=>true
 | _=>false
def eqV:V->V->Bool
 | .non,.non=>true
 | .bl a,.bl b=>a == b
 | .bl a,.int b=>(if a then 1 else 0) == b
 | .int a,.bl b=>a == (if b then 1 else 0)
 | .int a,.int b=>a == b
 | .str a,.str b=>a == b
 | _,_=>false
def eqU (x:V) (u:Value):Bool:=match u with
 | .none=>eqV .non x
 | .bool b=>eqV (.bl b) x
 | .int i _=>eqV (.int i) x
 | .str z _=>eqV (.str z) x
 | _=>false
def inV (x:V) (xs:List V):Bool:=xs.any fun y=>eqV y x
def rIn (K:Frag) (neg:Bool):R2:=fun x y H Q=>∃p xs,y=.ref p/\(SqL K H p xs\/SqT K H p xs)/\flatV x=true/\xs.all flatV=true/\Q (.bl (if neg then !inV x xs else inV x xs)) H
theorem a7n:a2M X (.builtin "len") (fun xs H Q=>∃p ys,xs=[.ref p]/\(SqL X.K H p ys\/SqT X.K H p ys)/\Q (.int ys.length) H):=by
 intro pins s σ H xs us Q I r h
 obtain ⟨p,ys,rfl,hq,q⟩:=h
 obtain ⟨u,rfl,rx⟩:=a6T r
 cases rx
 have hn:=a83
 rcases hq with hq|hq
 ·obtain ⟨its,r',pl,hz⟩:=I.list hq
  have hlen:=r'.length
  exact Calls.call_len_list pl.isList (by simp only [size_toArray] <;> omega) ⟨.int ys.length,H,I.tok _,⟨s.toks+1,by rw [size_toArray,hlen]⟩,q⟩
 ·obtain ⟨its,r',pl,hz⟩:=I.tuple hq
  have hlen:=r'.length
  exact len_tuple pl (by simp only [size_toArray] <;> omega) ⟨.int ys.length,H,I.tok _,⟨s.toks+1,by rw [size_toArray,hlen]⟩,q⟩
theorem b17:a2M X (.builtin "len") (fun xs H Q=>∃z,xs=[.str z]/\z.length<=sizeLine/\Q (.int z.length) H):=by
 intro pins s σ H xs us Q I r h
 obtain ⟨z,rfl,hz,q⟩:=h
 obtain ⟨u,rfl,t,rfl⟩:=a6T r
 have hn:=a83
 exact len_str (by omega) ⟨.int z.length,H,I.tok _,⟨_,rfl⟩,q⟩
theorem a2M.or {f:Value} {r r':List V->Hp->VK->Prop} (h:a2M X f r) (h':a2M X f r'):a2M X f (fun xs H Q=>r xs H Q\/r' xs H Q):=by
 intro pins s σ H xs us Q I rs q
 rcases q with q|q
 ·exact h pins s σ H xs us Q I rs q
 ·exact h' pins s σ H xs us Q I rs q
theorem a7m:a2M X (.type "list") (fun xs H Q=>∃p ys,xs=[.ref p]/\(SqL X.K H p ys\/SqT X.K H p ys)/\∀l,H l=none->Q (.ref l) (upd H l (.lst ys))):=by
 intro pins s σ H xs us Q I r h
 obtain ⟨p,ys,rfl,hq,q⟩:=h
 obtain ⟨u,rfl,rx⟩:=a6T r
 cases rx
 have fin:∀(its:List Value),Vals ys its->ys.length<=sizeLine->∀(h':Heap) (c':Nat),(∀b o',s.heap.get? b=some o'->h'.get? b=some o')->
   h'.get? s.heap.objs.size=some { cls:=.type "list",dict:=none,data:=.seq its.toArray c',slots:=#[] }->EP X pins σ Q (.ref s.heap.objs.size) { s with heap:=h' }:=fun its r' hz h' c' kp e=>
  ⟨.ref s.heap.objs.size,_,I.laid (t':=s.toks) kp (le_refl _) (show a3n X.prog X.w _ h' _ (.lst ys) from ⟨hz,its,c',r',e⟩),rfl,q _ (I.hok.fresh (le_refl _))⟩
 rcases hq with hq|hq
 ·obtain ⟨its,r',pl,hz⟩:=I.list hq
  have hlen:=r'.length
  obtain ⟨o,ho,hc,n,hd⟩:=pl.isList
  exact call_list_seq p (.inl rfl) ho hc hd (fun h' c' kp e=>fin its r' hz h' c' kp e) (by simp only [size_toArray] <;> omega)
 ·obtain ⟨its,r',pl,hz⟩:=I.tuple hq
  have hlen:=r'.length
  obtain ⟨o,ho,hc,n,hd⟩:=pl
  exact call_list_seq p (.inr rfl) ho hc hd (fun h' c' kp e=>fin its r' hz h' c' kp e) (by simp only [size_toArray] <;> omega)
theorem a6L:a2M X (.type "tuple") (fun xs H Q=>∃p ys,xs=[.ref p]/\((SqL X.K H p ys/\∀l,H l=none->Q (.ref l) (upd H l (.tup ys)))\/(SqT X.K H p ys/\Q (.ref p) H))):=by
 intro pins s σ H xs us Q I r h
 obtain ⟨p,ys,rfl,h⟩:=h
 obtain ⟨u,rfl,rx⟩:=a6T r
 cases rx
 rcases h with ⟨hq,q⟩|⟨hq,q⟩
 ·obtain ⟨its,r',pl,hz⟩:=I.list hq
  have hlen:=r'.length
  refine call_tuple_list pl.isList (fun h' kp=>?_) (by simp only [size_toArray] <;> omega)
  have I1:Inv X pins σ H { s with heap:=h' }:=I.kept (t':=s.toks) kp
  have I2:Inv X pins σ (upd H h'.objs.size (.tup ys)) { s with heap:=h'.push { cls:=.type "tuple",data:=.seq its.toArray } }:=
   I1.laid (t':=s.toks) (fun b o e=>get?_push_of_some _ e) (le_refl _) (show a3n X.prog X.w _ _ _ (.tup ys) from ⟨hz,its,r',IsTup.new _ _⟩)
  exact ⟨.ref h'.objs.size,_,I2,rfl,q _ (I1.hok.fresh (le_refl _))⟩
 ·obtain ⟨its,r',pl,hz⟩:=I.tuple hq
  exact call_tuple_same pl ⟨.ref p,H,I,rfl,q⟩
def tyV (K:Frag) (T:String) (x:V) (H:Hp):Prop:=match x with
 | .str _=>T = "str"
 | .int _=>T = "int"
 | .ref p=>(T = "list" /\ ∃xs,SqL K H p xs)\/(T = "tuple" /\ ∃o,K.lookup p=some o/\o.cls=.type "tuple" /\ o.dict=none)\/
   (T = "dict" /\ ((∃kvs,H p=some (.dK kvs))\/∃kvs,H p=some (.dT kvs)))\/(T = "set" /\ ∃S n,H p=some (.set S n))
 | _=>False
theorem tyV_is {pins:List (Addr×Obj)} {σ:St} {H:Hp} {s:Shared} {T:String} {x:V} {v:Value} (I:Inv X pins σ H s) (r:RelV x v) (ty:tyV X.K T x H):
  s.TypeIs v T/\∀a,v=.ref a->∃ob,s.heap.get? a=some ob/\ob.dict=none:=by
 cases x with
 | str z=>
  obtain ⟨t,rfl⟩:=r
  cases (show T = "str" from ty)
  exact ⟨typeIs_str s z t,fun _ e=>nomatch e⟩
 | int i=>
  obtain ⟨t,rfl⟩:=r
  cases (show T = "int" from ty)
  exact ⟨typeIs_int s i t,fun _ e=>nomatch e⟩
 | ref p=>
  cases r
  rcases ty with ⟨rfl,xs,hq⟩|⟨rfl,o,hk,hc,hd⟩|⟨rfl,hk⟩|⟨rfl,S,n,hk⟩
  ·obtain ⟨its,_,pl,_⟩:=I.list hq
   refine ⟨pl.isList.typeIs,fun a e=>?_⟩
   cases e
   obtain ⟨o,n,e,c,hd,_⟩:=pl
   exact ⟨o,e,hd⟩
  ·refine ⟨⟨o,I.kIn p o hk,hc⟩,fun a e=>?_⟩
   cases e
   exact ⟨o,I.kIn _ o hk,hd⟩
  ·have z:∃o,s.heap.get? p=some o/\o.ExactDict:=by
    rcases hk with ⟨kvs,hk⟩|⟨kvs,hk⟩
    ·obtain ⟨_,_,_,_,o,_,_,e,ex,_⟩:=I.hok p _ hk
     exact ⟨o,e,ex⟩
    ·obtain ⟨_,_,_,_,o,_,_,e,ex,_⟩:=I.hok p _ hk
     exact ⟨o,e,ex⟩
   obtain ⟨o,e,ex⟩:=z
   refine ⟨⟨o,e,ex.1⟩,fun a e2=>?_⟩
   cases e2
   exact ⟨o,e,ex.2.1⟩
  ·obtain ⟨o,_,_,_,e,ex,_⟩:=I.hok p _ hk
   refine ⟨⟨o,e,ex.1⟩,fun a e2=>?_⟩
   cases e2
   exact ⟨o,e,ex.2.1⟩
 | _=>exact False.elim ty
def tBM0 (K:Frag) (T:String) (r:V->List V->Hp->VK->Prop) (to:TE):TE:=fun σ H Q=>to σ H fun x H1=>tyV K T x H1/\r x [] H1 Q
def tBM (K:Frag) (T:String) (r:V->List V->Hp->VK->Prop) (to:TE) (t:TA):TE:=fun σ H Q=>to σ H fun x H1=>tyV K T x H1/\t σ H1 fun xs H2=>r x xs H2 Q
variable {o e:Expr} {es:List Expr} {to:TE} {t:TA} {name:Str} {apos cpos:Pos} {T id:String} {r:V->List V->Hp->VK->Prop}
theorem pe_bm (pa:PlainAttrs T) (slot:Slot T name id) (hty:typeOf (.builtin id)=pure (.type "method_descriptor")) (hm:MtR X id r) (ho:PE X o to) (ha:PA X (e::es) t)
  (hbase:attributeBase o name X.env (eval o X.env)=eval o X.env:=by rfl)
  (hfew:((backTo cpos (starEach (e::es) X.env)).all (fun x=>!x.1) && (backToKw cpos (keywordEach [] X.env)).all (fun x=>x.1.isSome)
   && decide ((e::es).length+([]:List Keyword).length+(if ([]:List Keyword).isEmpty then 0 else 1)<30))=true:=by rfl)
  (hline:(apos.endLine == cpos.line)=true:=by rfl) (hs:starEach (e::es) X.env=(false,eval e X.env)::starEach es X.env:=by rfl) (hplain:(backTo cpos (starEach es X.env)).any (·.1)=false:=by rfl):
  PE X (.Call (.Attribute o name apos) (e::es) [] cpos) (tBM X.K T r to t):=by
 intro pins s σ H Q I h
 refine wpAny_Call_method_late hbase hfew hline rfl (thn (ho pins s σ H _ I h) fun v s1 ⟨x,H1,I1,r1,ty,q1⟩=>?_)
 obtain ⟨h1,h2⟩:=tyV_is I1 r1 ty
 refine ⟨T,id,pa,slot,hty,h1,h2,?_⟩
 have hA:=ha cpos pins s1 σ H1 _ I1 q1
 rw [hs] at hA ⊢
 refine Calls.callWith_builtin (by show (false || (backTo cpos (starEach es X.env)).any (·.1))=false;rw [hplain] <;> rfl) (Calls.evalArgs_plain ?_)
 exact thn hA fun us s2 ⟨vs,H2,I2,r2,q2⟩=>hm pins s2 σ H2 x vs v us Q I2 r1 r2 q2
end
def MtM (X:Cx) (id:String) (r:V->List V->Hp->VK->Prop):Prop:=
 ∀(pins:List (Addr×Obj)) (s:Shared) (σ:St) (H:Hp) (x:V) (xs:List V) (v:Value) (us:List Value) (Q:VK),Inv X pins σ H s->RelV x v->Vals xs us->r x xs H Q->
  wpAny (model X.prog X.w) X.A (call (.builtin id) (v::us)) (EP X pins σ Q) X.xe s
theorem Vals.one:∀{x:V} {us:List Value},Vals [x] us->∃u,us=[u]/\RelV x u
 | _,_,.cons r .nil=>⟨_,rfl,r⟩
theorem Vals.dropLast {xs:List V} {us:List Value} (h:Vals xs us):Vals xs.dropLast us.dropLast:=by
 induction h with
 | nil=>exact .nil
 | cons r t ih=>
  cases t with
  | nil=>exact .nil
  | cons q t'=>exact .cons r ih
theorem Vals.eraseIdx:∀{xs:List V} {us:List Value} (i:Nat),Vals xs us->Vals (xs.eraseIdx i) (us.eraseIdx i)
 | _,_,_,.nil=>.nil
 | _,_,0,.cons _ t=>t
 | _,_,i+1,.cons r t=>.cons r (Vals.eraseIdx i t)
theorem Vals.reverse {xs:List V} {us:List Value} (h:Vals xs us):Vals xs.reverse us.reverse:=by
 induction h with
 | nil=>exact .nil
 | cons r t ih=>rw [reverse_cons,reverse_cons];exact Vals.append ih (.cons r .nil)
theorem Vals.rep {xs:List V} {us:List Value} (h:Vals xs us):∀k:Nat,Vals (replicate k xs).flatten (replicate k us).flatten
 | 0=>.nil
 | k+1=>by
  rw [replicate_succ,replicate_succ,flatten_cons,flatten_cons]
  exact Vals.append h (Vals.rep h k)
theorem b12 (its:List Value):∀(k:Nat) (acc:List Value),
  List.foldl (fun x1 x2=>x1++x2) acc.toArray (replicate k its.toArray)=(acc++(replicate k its).flatten).toArray
 | 0,acc=>by simp
 | k+1,acc=>by
  have e:acc.toArray++its.toArray=(acc++its).toArray:=by simp
  have e2:(acc++its)++(replicate k its).flatten=acc++(replicate (k+1) its).flatten:=by
   rw [replicate_succ,flatten_cons,append_assoc]
  rw [←e2,←b12 its k (acc++its),←e,replicate_succ,foldl_cons]
section
variable {X:Cx} {pins:List (Addr×Obj)} {σ:St} {H:Hp} {s:Shared} {l b:Addr} {xs ys zs:List V}
theorem Inv.lset {its its':List Value} {n:Nat} {f:Array Value->Array Value} {t':Nat} (I:Inv X pins σ H s) (hH:H l=some (.lst xs))
  (e:s.heap.get? l=some { cls:=.type "list",data:=.seq its.toArray n }) (hf:f its.toArray=its'.toArray) (hv:Vals ys its') (hz:ys.length<=sizeLine):
  Inv X pins σ (upd H l (.lst ys)) { s with heap:=s.heap.update l (Obj.mapSeq f),toks:=t' }:=by
 have q:=PySem.IsL.update e f
 rw [hf] at q
 refine I.write (x:=l) (e:=l) (by rw [hH];exact trivial) (.inl rfl) (fun b' u hb hu=>(get?_update_other s.heap (Obj.mapSeq f) (Ne.symm hb)).trans hu) ⟨_,q⟩ ?_
 exact ⟨hz,its',_,hv,q⟩
theorem Inv.lnew {its:List Value} {t':Nat} (I:Inv X pins σ H s) (hv:Vals ys its) (hz:ys.length<=sizeLine):
  Inv X pins σ (upd H s.heap.objs.size (.lst ys)) { s with heap:=s.heap.push { cls:=.type "list",data:=.seq its.toArray },toks:=t' }:=
 I.laid (fun _ _ q=>get?_push_of_some _ q) (le_refl _) ⟨hz,its,0,hv,get?_push_size _ rfl⟩
theorem Inv.fresh (I:Inv X pins σ H s):H s.heap.objs.size=none:=I.hok.fresh (le_refl _)
theorem Inv.lstM (I:Inv X pins σ H s) (hH:H l=some (.lst xs)):xs.length<=sizeLine/\∃(its:List Value) (n:Nat),Vals xs its/\xs.length=its.length/\s.heap.get? l=some { cls:=.type "list",data:=.seq its.toArray n }:=by
 obtain ⟨z,its,n,r,e⟩:=I.hok l _ hH
 exact ⟨z,its,n,r,r.length,e⟩
theorem b0c {n:Nat} (h:n<=sizeLine):Builtin.List.listTooLong n=false:=by
 unfold Builtin.List.listTooLong
 exact decide_eq_false (by omega)
end
section
variable {X:Cx}
def rAppend:V->List V->Hp->VK->Prop:=fun x vs H Q=>∃l xs y,x=.ref l/\vs=[y]/\H l=some (.lst xs)/\xs.length<sizeLine/\Q .non (upd H l (.lst (xs++[y])))
theorem b1K:MtM X "list.append" rAppend:=by
 intro pins s σ H x vs v us Q I rx rv h
 obtain ⟨l,xs,y,rfl,rfl,hH,hz,q⟩:=h
 cases rx
 obtain ⟨u,rfl,ru⟩:=rv.one
 obtain ⟨z,its,n,r,hl,e⟩:=I.lstM hH
 refine call_meets F.slot_list_append ⟨_,e,rfl⟩ F.entry_list_append (F.args_list_append_2 _ _) (PySem.list_append l its.toArray n u (by rw [size_toArray];omega)) ⟨e,?_⟩
 refine ⟨.non,_,I.lset (its':=its++[u]) hH e (by simp) (r.append (.cons ru .nil)) ?_,rfl,q⟩
 rw [length_append,length_singleton]
 omega
def rExtend:V->List V->Hp->VK->Prop:=fun x vs H Q=>∃l b xs zs,x=.ref l/\vs=[.ref b]/\H l=some (.lst xs)/\H b=some (.lst zs)/\xs.length+zs.length<=sizeLine/\Q .non (upd H l (.lst (xs++zs)))
def rPop:V->List V->Hp->VK->Prop:=fun x vs H Q=>∃l xs y,x=.ref l/\vs=[]/\H l=some (.lst xs)/\xs[xs.length - 1]?=some y/\Q y (upd H l (.lst xs.dropLast))
def rPopAt:V->List V->Hp->VK->Prop:=fun x vs H Q=>∃l xs i k y,x=.ref l/\vs=[.int i]/\H l=some (.lst xs)/\-(2 ^ 63)<=i/\i<2 ^ 63/\seqIndex? i xs.length=some k/\xs[k]?=some y/\Q y (upd H l (.lst (xs.eraseIdx k)))
def rReverse:V->List V->Hp->VK->Prop:=fun x vs H Q=>∃l xs,x=.ref l/\vs=[]/\H l=some (.lst xs)/\Q .non (upd H l (.lst xs.reverse))
def rClear:V->List V->Hp->VK->Prop:=fun x vs H Q=>∃l xs,x=.ref l/\vs=[]/\H l=some (.lst xs)/\Q .non (upd H l (.lst []))
def rCat:R2:=fun x y H Q=>∃l b xs zs,x=.ref l/\y=.ref b/\H l=some (.lst xs)/\H b=some (.lst zs)/\xs.length+zs.length<=sizeLine/\∀p,H p=none->Q (.ref p) (upd H p (.lst (xs++zs)))
def rRep:R2:=fun x y H Q=>∃l k xs,x=.ref l/\y=.int k/\H l=some (.lst xs)/\-(2 ^ 63)<=k/\k<2 ^ 63/\xs.length * k.toNat<=sizeLine/\
 ∀p,H p=none->Q (.ref p) (upd H p (.lst (replicate k.toNat xs).flatten))
theorem len_rep {α:Type} (xs:List α) (k:Nat):(replicate k xs).flatten.length=k * xs.length:=by
 induction k with
 | zero=>simp
 | succ k ih=>rw [replicate_succ,flatten_cons,length_append,ih,Nat.succ_mul,Nat.add_comm]
theorem op_rep:OpR X (binaryOp .Mult) rRep:=by
 intro pins s σ H x y v u Q I rx ry h
 obtain ⟨l,k,xs,rfl,rfl,hH,h1,h2,hz,q⟩:=h
 cases rx
 obtain ⟨t,rfl⟩:=ry
 obtain ⟨z,its,n,r,hl,e⟩:=I.lstM hH
 have hlen:its.toArray.size * k.toNat<=sizeLine:=by rw [size_toArray,←hl];exact hz
 have hcap:¬its.toArray.size * k.toNat > (2 ^ 63 - 1) / 8:=by
  have:(sizeLine:Nat)<=(2 ^ 63 - 1) / 8:=by decide
  omega
 have hfit:¬(!Builtin.List.listFitsIndex k)=true:=by
  rw [fitsIndex_both h1 h2]
  exact Bool.false_ne_true
 have hlong:¬Builtin.List.listTooLong (its.toArray.size * k.toNat)=true:=by
  rw [b0c hlen]
  exact Bool.false_ne_true
 have hnew:List.foldl (fun x1 x2=>x1++x2) #[] (replicate (if its.toArray.isEmpty=true then 0 else k.toNat) its.toArray)=(replicate k.toNat its).flatten.toArray:=by
  have f0:∀m:Nat,List.foldl (fun x1 x2=>x1++x2) #[] (replicate m its.toArray)=(replicate m its).flatten.toArray:=fun m=>by
   have:=b12 its m []
   rw [nil_append] at this
   exact this
  rw [f0]
  cases its with
  | nil=>simp
  | cons a r'=>rw [if_neg (by simp)]
 refine wpAny_binaryOp_repeat_ref (T := "list") (U := "int") (by decide) ⟨_,e,rfl⟩ (fun s'=>typeIs_int s' k t) noFill_list_mul F.fills_int_mul F.slot_int_rmul repeat_list F.slot_int_index.lookup
  (call_meets F.slot_int_rmul (typeIs_int s k t) F.entry_int_rmul (F.args_int_rmul_2 _ _) (int___rmul___int_list k t l its.toArray n)
   ⟨e,rfl,⟨_,e,rfl⟩,call_meets F.slot_list_mul ⟨_,e,rfl⟩ F.entry_list_mul (F.args_list_mul_2 _ _) (AutoListH.list___mul___list_int_3 l its.toArray n k t hfit hcap hlong) ⟨e,?_⟩⟩)
 rw [hnew]
 exact ⟨.ref _,_,I.lnew (t':=s.toks) (r.rep k.toNat) (by rw [len_rep,Nat.mul_comm];exact hz),rfl,q _ I.fresh⟩
end
section
variable {prog:Program} {w:World} {A:Around} {E:Value->Shared->Prop} {s:Shared}
set_option maxRecDepth 100000 in
end
section
variable {X:Cx}
end
end L2
namespace Att
open PySem PySem.W PySem.Calls PyProof.Rows
theorem a78 {P:Params} {h:Heap}:∀(ns:List Int) (vs:List Value),WellAll P h vs (ns.map WData.int)->IntsAre vs ns:=by
 intro ns
 induction ns with
 | nil=>
  intro vs w
  rw [map_nil] at w
  cases w
  exact .nil
 | cons n ns ih=>
  intro vs w
  rw [map_cons] at w
  cases w with
  | cons a b=>
   cases a
   exact .cons _ _ (ih _ b)
theorem b50 {l:OpenLaw} {n:Nat} (hn:l.most=some n) {P:Params} {h:Heap} {args:List WData} {vals:List Value}
  (hpre:l.row.toRowW.claim.pre args=true) (hwl:WellAll P h vals args):
  ∃a vs ns,vals=[Value.ref a]/\args=[WData.list (ns.map WData.int)]/\h.get? a=some { cls:=.type "list",data:=.seq vs.toArray }/\IntsAre vs ns/\ns.length<=n:=by
 have hsh:WShape.hasAll [] args [.list .int]=true:=(pre_splitW hpre).1
 have hc:l.pre.holds [] { args:=args }=true:=(pre_splitW hpre).2
 obtain ⟨d,r,rfl,h1,h2⟩:=hasAllW_cons hsh
 obtain rfl:=hasAllW_nil h2
 obtain ⟨xs,rfl,h3⟩:=hasW_list h1
 obtain ⟨ns,rfl⟩:=items_int h3
 have hlen:ns.length<=n:=by
  unfold OpenLaw.pre at hc
  have h4:(WTm.not (.lt (.lit (.int (n:Int))) (.len (.arg 0)))).holds [] { args:=[.list (ns.map .int)] }=true:=by
   have h4:=(holds_andW hc).1
   rw [hn] at h4
   exact h4
  have h5:=condW_of h4 (w_not (w_lt w_lit (w_len_list (w_arg rfl))))
  rw [length_map] at h5
  refine Nat.le_of_not_lt fun q=>?_
  have q':(n:Int)<((ns.length:Nat):Int):=by omega
  first
   | (rw [decide_eq_true q'] at h5;exact absurd h5 (by decide))
   | (simp at h5;omega)
 cases hwl with
 | cons w1 w2=>
  cases w2
  cases w1 with
  | list ho hall=>exact ⟨_,_,ns,rfl,rfl,ho,a78 ns _ hall,hlen⟩
theorem b6j (l:OpenLaw) (args:List WData):l.row.toRowW.claim.post args (.bool true) args=true:=
 postW_of (r:=l.row.toRowW) (X:=(true == true))
  (show WShape.has [] (.bool true) .bool=true by first|rfl|decide|simp [WShape.has,WShape.arms,WShape.armsAll])
  (show (WTm.eq .res (.lit (.bool true))).value [] { args:=args,res:=some (.bool true),after:=args }=some (.bool (true == true)) from w_eq_bool (w_res rfl) w_lit) rfl
theorem attach_call {l:OpenLaw} {n:Nat} {q:Program} {loose:List Str} {XP:(Str->Option Value)->Heap->Prop} {YP:World->Heap->Prop} {d:DefRec}
  (hn:l.most=some n) (hdf:d.params.defaults=[])
  (call:∀(w:World) (s₀ s₁:Shared) (mg mb:Str->Option Value) (fa:Addr) (o:Obj) (pm cd doc:Value) (a:Addr) (vs:List Value) (ns:List Int),
   Ground q loose [] XP w s₀ mg mb s₁.heap->YP w s₁.heap->
   s₁.heap.get? fa=some o->o.data=.func (docDef d.name d.params d.body d.scope pm cd doc)->s₁.heap.CodeRec cd d.name->mg d.name=some (.ref fa)->
   s₁.heap.get? a=some { cls:=.type "list",data:=.seq vs.toArray }->IntsAre vs ns->ns.length<=n->s₁.gens=#[]->
   codeAny (model l.prog w) callerA (.call (.ref fa) ⟨[.ref a],[]⟩) (fun r s'=>r=.ok (.ret (.bool true))/\OldK s₁.heap s'.heap/\s'.os=s₁.os/\AllBare s'.gens) s₁):
  WalkO q loose XP YP l.row.toRowW d [] (fun f vs=>PySem.call f vs):=by
 intro w s₀ s₁ mg mb G Y fa o pm cd doc dV kV ho hd hcd hD hmg hg args vals as hpre hlay hrd hwl hlo
 obtain rfl:dV=.none:=Dflts.none hD hdf
 obtain rfl:kV=.none:=Dflts.noKw hD
 obtain ⟨a,vs,ns,rfl,rfl,hobj,hints,hlen⟩:=b50 hn hpre hwl
 refine enter_call (codeAny_mono (call w s₀ s₁ mg mb fa o pm cd doc a vs ns G Y ho (fd_plain hd) hcd hmg hobj hints hlen hg) fun r s' hq=>?_)
 obtain ⟨rfl,h2,h3,h4⟩:=hq
 exact ⟨.inl ⟨.bool true,.bool true,[],rfl,fun _=>rfl,.bool true,b6j l _,fun _=>⟨List.Pairwise.nil,fun _ hm=>(nomatch hm)⟩⟩,h2,h3,h4⟩
section
variable {prog:Program} {w:World} {A:Around} {E:Value->Shared->Prop} {s:Shared} {K:Frag}
def noObjs (h:Heap):Heap:={ h with objs:=#[] }
def ledger (h:Heap) (L d:Addr):List (Addr×Obj):=(List.range h.objs.size).filterMap fun a=>if a=L\/a=d then none else (h.get? a).map fun o=>(a,o)
end
end Att
namespace L2
open PySem PySem.Spec PyProof.Rows
theorem b0G:∀{vs:List Value} {ns:List Int},IntsAre vs ns->Vals (ns.map V.int) vs
 | _,_,.nil=>.nil
 | _,_,.cons n t h=>.cons ⟨t,rfl⟩ (b0G h)
def Only (H:Hp):Prop:=∀b,H b=none\/∃o xs,H b=some (.frz o (.lst xs))
theorem law_call {P:Program} {w:World} {K:Frag} {mg mb:Str->Option Value} {CX:CXT} {k:Nat} {fa a:Addr} {fd:FuncData} {x:Str} {sp:Sp} {s₁:Shared} {vs:List Value} {ns:List Int}
  (KX:K.In s₁.heap) (hns:s₁.heap.Ns mainGlobals mg) (hb:s₁.heap.Ns builtinsNs mb) (hbb:∀x:Str,x ≠ "__name__" -> mb x=bootBuiltins x) (hlim:s₁.heap.NoLimit) (hg:s₁.gens=#[])
  (ha:s₁.heap.get? a=some { cls:=.type "list",data:=.seq vs.toArray }) (hi:IntsAre vs ns) (hl:ns.length<=sizeLine) (hr:Room k callerA)
  (F:∀base:Heap,K.In base->base.Ns mainGlobals mg->FnOk P w K mg base CX k fa fd [x] sp) (hbind:∀(s:Shared) (u:Value),BindsTo s fd ⟨[u],[]⟩ [(x,u)])
  (hsp:∀H:Hp,Only H->SqL K H a (ns.map V.int)->sp [.ref a] H (fun v _=>v=.bl true) fun _ _ _=>False)
  (hCX:∀H e s',CX [] H s₁ (fun _ _ _=>False) e s'->False):
  codeAny (model P w) callerA (.call (.ref fa) ⟨[.ref a],[]⟩) (fun r s'=>r=.ok (.ret (.bool true))/\OldK s₁.heap s'.heap/\s'.os=s₁.os/\AllBare s'.gens) s₁:=by
 have rv:=b0G hi
 have lenV:=hi.length
 have core:∀H:Hp,Only H->SqL K H a (ns.map V.int)->HOk P w H s₁.heap->(∀b,H b≠none->b=a)->(H a≠none->K.lookup a=none)->
   codeAny (model P w) callerA (.call (.ref fa) ⟨[.ref a],[]⟩) (fun r s'=>r=.ok (.ret (.bool true))/\OldK s₁.heap s'.heap/\s'.os=s₁.os/\AllBare s'.gens) s₁:=by
  intro H hO hS hok hA hK
  have base_of:∀{b:Addr} {o:Obj},s₁.heap.get? b=some o->H b=none->(hidT s₁.heap H).get? b=some o:=fun e n=>hidT_get e n
  have noA:∀{b:Addr} {o:Obj} {es:Array DictEntry} {ep:Nat},s₁.heap.get? b=some o->o.data=.dict es ep->H b=none:=fun {b o es ep} e d=>by
   cases q:H b with
   | none=>rfl
   | some u=>
    have e':b=a:=hA b (by rw [q];simp)
    subst e'
    rw [ha] at e;cases e
    have d':Data.seq vs.toArray _=Data.dict es ep:=d
    cases d'
  have nsK:∀{b:Addr} {m:Str->Option Value},s₁.heap.Ns b m->(hidT s₁.heap H).Ns b m:=fun {b m} ⟨o,es,ep,e,d,r⟩=>⟨o,es,ep,base_of e (noA e d),d,r⟩
  have hKb:K.In (hidT s₁.heap H):=fun b o e=>base_of (KX b o e) (by
   cases q:H b with
   | none=>rfl
   | some u=>
    have e':b=a:=hA b (by rw [q];simp)
    subst e'
    rw [hK (by rw [q];simp)] at e;cases e)
  have hM:Mod K mg (hidT s₁.heap H):=⟨hKb,nsK hns,⟨mb,nsK hb,hbb⟩,let ⟨mc,h1,h2⟩:=hlim;⟨mc,nsK h1,h2⟩⟩
  have e0:Env0 P w K mg (hidT s₁.heap H) callerA [] s₁ H:=⟨rfl,hM,fun b o e=>of_hidT e,le_of_eq (b64 _ _),trivial,fun b hb=>absurd (show b∈([]:List Addr) from hb) (by simp),hok,.of_eq hg⟩
  refine codeAny_mono ((F _ hKb (nsK hns)).run callerA [] s₁ H ⟨[.ref a],[]⟩ [.ref a] [.ref a] _ _ hr e0 (hbind s₁ (.ref a)) (.cons rfl .nil) (hsp H hO hS)) fun r s' h=>?_
  cases r with
  | error e=>exact (hCX H e s' h).elim
  | ok fl=>
   cases fl with
   | next=>exact False.elim h
   | brk=>exact False.elim h
   | cont=>exact False.elim h
   | ret u=>
    obtain ⟨v,H',os,bare,un,hok',r',q⟩:=h
    have q':v=.bl true:=q
    subst q'
    obtain rfl:u=Value.bool true:=r'
    refine ⟨rfl,OldK.of_keep fun b o e=>?_,os,bare⟩
    cases q:H b with
    | none=>exact un.keep b o e q (by intro z;exact absurd (show b∈([]:List Addr) from z) (by simp)) (by simp)
    | some u=>
     rcases hO b with z|⟨ob,xs,z⟩
     ·rw [q] at z;cases z
     ·have z2:=un.frzs b ob _ z
      obtain ⟨e1,_⟩:=hok b _ z
      obtain ⟨e2,_⟩:=hok' b _ z2
      rw [e] at e1;cases e1
      exact e2
 cases hk:K.lookup a with
 | some o=>
  have e:=KX a o hk
  rw [ha] at e
  cases e
  refine core (fun _=>none) (fun _=>.inl rfl) (.inr ⟨_,vs.toArray,_,hk,rfl,rfl,rfl,by rw [size_toArray,lenV];exact hl,by simpa using rv⟩) (fun b u z=>by have z':(none:Option HO)=some u:=z;cases z') (fun b z=>absurd rfl z) fun z=>absurd rfl z
 | none=>
  refine core (fun b=>if b=a then some (.frz { cls:=.type "list",data:=.seq vs.toArray } (.lst (ns.map V.int))) else none) (fun b=>?_) (.inl (.inr ⟨{ cls:=.type "list",data:=.seq vs.toArray },if_pos rfl⟩)) (fun b u z=>?_) (fun b z=>?_) fun _=>hk
  ·by_cases hb:b=a
   ·exact .inr ⟨_,_,if_pos hb⟩
   ·exact .inl (if_neg hb)
  ·by_cases hb:b=a
   ·have z':=(if_pos hb).symm.trans z
    cases z'
    subst hb
    exact ⟨ha,by rw [length_map];exact hl,vs,_,rv,ha⟩
   ·have z':=(if_neg hb).symm.trans z
    cases z'
  ·by_cases hb:b=a
   ·exact hb
   ·exact absurd (if_neg hb) z
abbrev KOf {K:Frag} {h:Heap} (_:K.In h):Frag:=K
theorem walk_of {l:PySem.W.OpenLaw} {n k:Nat} {q:Program} {loose:List Str} {XP:(Str->Option Value)->Heap->Prop} {YP:World->Heap->Prop} {d:DefRec} {K:Params->Frag} {CX:World->CXT} {sp:World->Sp} {x:Str}
  (hn:l.most=some n) (hn2:n<=sizeLine) (hdf:d.params.defaults=[]) (hr:Room k callerA)
  (hY:∀(w:World) (h:Heap),YP w h->(K w.params).In h)
  (F:∀(w:World) (mg:Str->Option Value) (fa:Addr) (h:Heap),(K w.params).In h->h.Ns mainGlobals mg->mg d.name=some (.ref fa)->
   ∃fd:FuncData,(∀(s:Shared) (u:Value),BindsTo s fd ⟨[u],[]⟩ [(x,u)])/\
    ∀base:Heap,(K w.params).In base->base.Ns mainGlobals mg->FnOk l.prog w (K w.params) mg base (CX w) k fa fd [x] (sp w))
  (hsp:∀(w:World) (H:Hp) (a:Addr) (ns:List Int),ns.length<=n->Only H->SqL (K w.params) H a (ns.map V.int)->sp w [.ref a] H (fun v _=>v=.bl true) fun _ _ _=>False)
  (hCX:∀(w:World) (H:Hp) (s:Shared) (e:Value) (s':Shared),CX w [] H s (fun _ _ _=>False) e s'->False):
  PySem.W.WalkO q loose XP YP l.row.toRowW d [] (fun f vs=>PySem.call f vs):=by
 refine Att.attach_call hn hdf fun w s₀ s₁ mg mb fa o pm cd doc a vs ns G Y ho hd hcd hmg hobj hints hlen hg=>?_
 have KX:=hY w _ Y
 obtain ⟨fd,hb,hF⟩:=F w mg fa _ KX G.T.g hmg
 exact law_call KX G.T.g G.T.b G.T.builtins G.T.nolimit hg hobj hints (le_trans hlen hn2) hr hF hb (fun H hO hS=>hsp w H a ns hlen hO hS) fun H e s'=>hCX w H s₁ e s'
def a1l (s:Stmt) (j:Nat):Stmt:=match s with
 | .ClassDef _ _ _ body _ _ _ _ _ _ _=>body.getD j (.Pass ⟨0,0,0,0⟩)
 | _=>.Pass ⟨0,0,0,0⟩
def a0p (s:Stmt):Arguments:=match s with
 | .FunctionDef _ a _ _ _ _ _ _ _ _=>a
 | _=>{ posonlyargs:=[],args:=[],vararg:=none,kwonlyargs:=[],kw_defaults:=[],kwarg:=none,defaults:=[] }
def a0k (s:Stmt):List Stmt:=match s with
 | .FunctionDef _ _ b _ _ _ _ _ _ _=>b
 | _=>[]
def a0g (s:Stmt):Scope:=match s with
 | .FunctionDef _ _ _ _ _ _ sc _ _ _=>sc
 | _=>{ kind:=.function,names:=[],isGenerator:=false,isCoroutine:=false }
abbrev CX0:CXT:=fun _ _ _ _ _ _=>False
abbrev E0:XK:=fun _ _ _=>False
theorem b1n {X:Cx}:a9g CX0 X E0:=fun _ _ _ _ _ _ _ h=>h.elim
structure Fun (K:Frag) (x qual:Str) (st:Stmt) (f:Addr) (fd:FuncData):Prop where
 ex:∃(oc:Value) (od:Option Addr) (kV doc pm:Value) (an:Option Addr) (cdv ct:Value) (osl:Array (Option Value)),
  fd=fnOf x qual (a0p st) (a0k st) (a0g st) .none kV doc pm an cdv ct/\K.lookup f=some ⟨oc,od,.func fd,osl⟩/\codeIn K cdv qual=true
 kp:keepIn K (.ref f)=true
section
variable {P:Program} {w:World} {K:Frag} {mg:Str->Option Value} {base:Heap}
theorem Fun.ok {x qual:Str} {st:Stmt} {f:Addr} {fd:FuncData} {N ps:List Str} {k:Nat} {sp:Sp} (F:Fun K x qual st f fd) (S:a0r N ps (a0g st)) (len:∀vs H Q E,sp vs H Q E->vs.length=ps.length)
  (hbody:∀(cdv:Value) (A:Around) (outer:List Env) (s:Shared) (H:Hp) (vs:List V) (Q:VK) (E:XK),Room k (A.deeper (envOfC qual (a0g st) s.heap.objs.size f cdv))->sp vs H Q E->
   ∃t,PSs (cxOf CX0 P w K mg base N qual (a0g st) f cdv A outer s H E).nox (a0k st) t/\t { nx:=fun _ H'=>Q .non H',rt:=Q } (start N vs) H):FnOk P w K mg base CX0 (k+1) f fd ps sp:=by
 obtain ⟨oc,od,kV,doc,pm,an,cdv,ct,osl,rfl,lk,hcd⟩:=F.ex
 refine fn_of lk hcd S len fun A outer s H vs Q E hr hsp=>?_
 obtain ⟨t,h,q⟩:=hbody cdv A outer s H vs Q E hr hsp
 exact ⟨t,h.nox,q⟩
theorem Fun.binds {x qual:Str} {st:Stmt} {f:Addr} {fd:FuncData} {ps:List Str} (F:Fun K x qual st f fd)
  (h:∀(kV doc pm:Value) (an:Option Addr) (cdv ct:Value) (us:List Value),us.length=ps.length->bindArgs (fnOf x qual (a0p st) (a0k st) (a0g st) .none kV doc pm an cdv ct) ⟨us,[]⟩=pure (ps.zip us)):a4o K fd ps []:=by
 obtain ⟨oc,od,kV,doc,pm,an,cdv,ct,osl,rfl,lk,hcd⟩:=F.ex
 exact .all (h kV doc pm an cdv ct)
theorem a9a {x qual:Str} {st:Stmt} {f:Addr} {oc:Value} {od an:Option Addr} {osl:Array (Option Value)} {kV doc pm cdv ct:Value} (l:K.lookup f=some ⟨oc,od,.func (fnOf x qual (a0p st) (a0k st) (a0g st) .none kV doc pm an cdv ct),osl⟩)
  (c:codeIn K cdv qual=true) (k:keepIn K (.ref f)=true):Fun K x qual st f (fnOf x qual (a0p st) (a0k st) (a0g st) .none kV doc pm an cdv ct):=⟨⟨oc,od,kV,doc,pm,an,cdv,ct,osl,rfl,l,c⟩,k⟩
end
section
variable {X:Cx}
theorem pv (i:Nat) {x:Str} {pos:Pos} (hN:X.N[i]?=some x:=by rfl) (hv:Vis X.env.scope x:=by first|exact Or.inl rfl|exact Or.inr (Or.inl rfl)|exact Or.inr (Or.inr rfl)) (hd:(x == ("__debug__" : Str))=false:=by decide)
  (hcd:(x == ("__classdict__" : Str))=false:=by decide):PE X (.Name x pos) (tVar i):=pe_var hN hv hd hcd
end
theorem iteF {A B:Prop} (h:B):if false=true then A else B:=by
 rw [if_neg Bool.false_ne_true]
 exact h
theorem iteT {A B:Prop} (h:A):if true=true then A else B:=by
 rw [if_pos rfl]
 exact h
def Same (H H':Hp):Prop:=∀b o,H b=some o->H' b=some o
theorem Same.refl (H:Hp):Same H H:=fun _ _ h=>h
theorem Same.trans {H H1 H2:Hp} (a:Same H H1) (b:Same H1 H2):Same H H2:=fun c o h=>b c o (a c o h)
theorem Same.free {H H':Hp} (e:Same H H') {l:Addr} (h:H' l=Option.none):H l=Option.none:=by
 cases q:H l with
 | none=>rfl
 | some o=>
  rw [e l o q] at h
  cases h
theorem Same.seq {K:Frag} {H H':Hp} {a:Addr} {xs:List V} (e:Same H H') (h:SqL K H a xs):SqL K H' a xs:=by
 rcases h with (h|⟨o,h⟩)|h
 ·exact .inl (.inl (e _ _ h))
 ·exact .inl (.inr ⟨o,e _ _ h⟩)
 ·exact .inr h
section
variable {κ:Type} [DecidableEq κ]
def valV (kvs:List (κ×V)) (k:κ):Option V:=(kvs.find? fun kv=>decide (kv.1=k)).map (·.2)
def putK (kvs:List (κ×V)) (k:κ) (v:V):List (κ×V):=
 if (kvs.any fun kv=>decide (kv.1=k))=true then kvs.map (fun kv=>if kv.1=k then (kv.1,v) else kv) else kvs++[(k,v)]
def b7d (kvs:List (κ×V)) (k:κ):List (κ×V):=kvs.filter fun kv=>decide (kv.1≠k)
theorem a9i {p:κ×V} {r:List (κ×V)} {k:κ} (e:p.1=k):valV (p::r) k=some p.2:=by simp [valV,find?_cons,e]
theorem a9j {p:κ×V} {r:List (κ×V)} {k:κ} (e:¬p.1=k):valV (p::r) k=valV r k:=by simp [valV,find?_cons,e]
theorem b3o (k:κ):∀kvs:List (κ×V),(kvs.any fun kv=>decide (kv.1=k))=(valV kvs k).isSome
 | []=>rfl
 | p::r=>by
  rw [any_cons]
  by_cases e:p.1=k
  ·simp only [a9i e,decide_eq_true e,Bool.true_or,Option.isSome_some]
  ·rw [a9j e,decide_eq_false e,Bool.false_or];exact b3o k r
theorem RelO.isSome_eq {o:Option V} {u:Option Value} (r:RelO o u):o.isSome=u.isSome:=by
 cases o with
 | none=>cases u with
  | none=>rfl
  | some _=>exact (show False from r).elim
 | some _=>cases u with
  | none=>exact (show False from r).elim
  | some _=>rfl
theorem RelO.getD {o:Option V} {u:Option Value} {d:V} {d':Value} (r:RelO o u) (rd:RelV d d'):RelV (o.getD d) (u.getD d'):=by
 cases o with
 | none=>cases u with
  | none=>exact rd
  | some _=>exact (show False from r).elim
 | some _=>cases u with
  | none=>exact (show False from r).elim
  | some _=>exact r
theorem KV.val {kvs:List (κ×V)} {vs:List (κ×Value)} (r:KV kvs vs) (k:κ):RelO (valV kvs k) (valueAt vs k):=by
 unfold KV at r
 induction r with
 | nil=>exact True.intro
 | @cons p q ps qs h t ih=>
  obtain ⟨h1,h2⟩:=h
  by_cases e:p.1=k
  ·have e':q.1=k:=h1.symm.trans e
   have b:valueAt (q::qs) k=some q.2:=by simp [valueAt,find?_cons,e']
   rw [a9i e,b];exact h2
  ·have e':¬q.1=k:=fun z=>e (h1.trans z)
   have b:valueAt (q::qs) k=valueAt qs k:=by simp [valueAt,find?_cons,e']
   rw [a9j e,b];exact ih
theorem KV.any {kvs:List (κ×V)} {vs:List (κ×Value)} (r:KV kvs vs) (k:κ):(kvs.any fun kv=>decide (kv.1=k))=vs.any fun kv=>decide (kv.1=k):=by
 unfold KV at r
 induction r with
 | nil=>rfl
 | cons h t ih=>rw [any_cons,any_cons,ih,h.1]
theorem KV.repl {kvs:List (κ×V)} {vs:List (κ×Value)} (r:KV kvs vs) (k:κ) {y:V} {u:Value} (ry:RelV y u):
  KV (kvs.map fun kv=>if kv.1=k then (kv.1,y) else kv) (vs.map fun kv=>if kv.1=k then (kv.1,u) else kv):=by
 unfold KV at r ⊢
 induction r with
 | nil=>exact .nil
 | @cons p q ps qs h t ih=>
  rw [map_cons,map_cons]
  refine .cons ?_ ih
  obtain ⟨h1,h2⟩:=h
  by_cases e:p.1=k
  ·rw [if_pos e,if_pos (h1.symm.trans e)];exact ⟨h1,ry⟩
  ·rw [if_neg e,if_neg (fun z=>e (h1.trans z))];exact ⟨h1,h2⟩
theorem KV.put {kvs:List (κ×V)} {vs:List (κ×Value)} (r:KV kvs vs) (k:κ) {y:V} {u:Value} (ry:RelV y u):KV (putK kvs k y) (stored vs k u):=by
 unfold putK stored
 rw [r.any k]
 by_cases e:(vs.any fun kv=>decide (kv.1=k))=true
 ·rw [if_pos e,if_pos e];exact r.repl k ry
 ·rw [if_neg e,if_neg e];exact Paired.snoc r ⟨rfl,ry⟩
theorem KV.drop {kvs:List (κ×V)} {vs:List (κ×Value)} (r:KV kvs vs) (k:κ):KV (b7d kvs k) (without vs k):=by
 unfold KV at r ⊢
 unfold b7d without
 induction r with
 | nil=>exact .nil
 | @cons p q ps qs h t ih=>
  obtain ⟨h1,h2⟩:=h
  rw [List.filter_cons,List.filter_cons]
  by_cases e:p.1=k
  ·have a:¬decide (p.1≠k)=true:=by simp [e]
   have b:¬decide (q.1≠k)=true:=by simp [h1.symm.trans e]
   rw [if_neg a,if_neg b];exact ih
  ·have e':¬q.1=k:=fun z=>e (h1.trans z)
   have a:decide (p.1≠k)=true:=by simp [e]
   have b:decide (q.1≠k)=true:=by simp [e']
   rw [if_pos a,if_pos b];exact .cons ⟨h1,h2⟩ ih
theorem KV.length {kvs:List (κ×V)} {vs:List (κ×Value)} (r:KV kvs vs):kvs.length=vs.length:=Paired.length r
end
abbrev KT (H:Hp):List (List Key×V)->List (List Key×Addr×Value)->Prop:=Paired fun p q=>p.1=q.1/\H q.2.1=some (.tup (p.1.map kV))/\RelV p.2 q.2.2
theorem KT.val {H:Hp} {kvs:List (List Key×V)} {xs:List (List Key×Addr×Value)} (r:KT H kvs xs) (k:List Key):RelO (valV kvs k) ((atKey xs k).map (·.2)):=by
 induction r with
 | nil=>exact True.intro
 | @cons p q ps qs h t ih=>
  obtain ⟨h1,_,h2⟩:=h
  by_cases e:p.1=k
  ·have e':q.1=k:=h1.symm.trans e
   have b:atKey (q::qs) k=some q.2:=by simp [atKey,find?_cons,e']
   rw [a9i e,b];exact h2
  ·have e':¬q.1=k:=fun z=>e (h1.trans z)
   have b:atKey (q::qs) k=atKey qs k:=by simp [atKey,find?_cons,e']
   rw [a9j e,b];exact ih
theorem KT.repl {H:Hp} {kvs:List (List Key×V)} {xs:List (List Key×Addr×Value)} (r:KT H kvs xs) (k:List Key) {y:V} {u:Value} (ry:RelV y u):
  KT H (kvs.map fun kv=>if kv.1=k then (kv.1,y) else kv) (xs.map (putAt k u)):=by
 induction r with
 | nil=>exact .nil
 | @cons p q ps qs h t ih=>
  rw [map_cons,map_cons]
  refine .cons ?_ ih
  obtain ⟨h1,h2,h3⟩:=h
  unfold putAt
  by_cases e:p.1=k
  ·rw [if_pos e,if_pos (h1.symm.trans e)];exact ⟨h1,h2,ry⟩
  ·rw [if_neg e,if_neg (fun z=>e (h1.trans z))];exact ⟨h1,h2,h3⟩
theorem KT.put {H:Hp} {kvs:List (List Key×V)} {xs:List (List Key×Addr×Value)} (r:KT H kvs xs) (k:List Key) {b:Addr} {y:V} {u:Value} (hb:H b=some (.tup (k.map kV))) (ry:RelV y u):
  KT H (putK kvs k y) (storedH xs k b u):=by
 have e:(kvs.any fun kv=>decide (kv.1=k))=(atKey xs k).isSome:=by
  rw [b3o,(r.val k).isSome_eq,Option.isSome_map]
 unfold putK storedH
 rw [e]
 by_cases q:(atKey xs k).isSome=true
 ·rw [if_pos q,if_pos q];exact r.repl k ry
 ·rw [if_neg q,if_neg q];exact Paired.snoc r ⟨rfl,hb,ry⟩
theorem KT.keeps {H H':Hp} {kvs:List (List Key×V)} {xs:List (List Key×Addr×Value)} (r:KT H kvs xs) (ht:∀b ys,H b=some (.tup ys)->H' b=some (.tup ys)):KT H' kvs xs:=
 Paired.mapP r fun _ _ z=>⟨z.1,ht _ _ z.2.1,z.2.2⟩
section
variable {P:Program} {w:World} {H:Hp} {h:Heap} {a:Addr}
end
def DGet (H:Hp) (a:Addr) (y:V) (r:Option V):Prop:=
 (∃kvs k,Rd H a (.dK kvs)/\y=kV k/\r=valV kvs k)\/∃kvs k b,Rd H a (.dT kvs)/\y=.ref b/\H b=some (.tup (k.map kV))/\r=valV kvs k
def DPut (H:Hp) (a:Addr) (y v:V) (H':Hp):Prop:=
 (∃kvs k,H a=some (.dK kvs)/\y=kV k/\kvs.length<sizeLine/\H'=upd H a (.dK (putK kvs k v)))\/
 ∃kvs k b,H a=some (.dT kvs)/\y=.ref b/\H b=some (.tup (k.map kV))/\kvs.length<sizeLine/\H'=upd H a (.dT (putK kvs k v))
section
variable {X:Cx} {pins:List (Addr×Obj)} {σ:St} {H:Hp} {s:Shared} {a:Addr} {y v:V} {u r:Value} {o:Option V} {A:Around} {E:Value->Shared->Prop}
theorem Inv.big (I:Inv X pins σ H s):sysModules<s.heap.objs.size:=by
 have h:mainGlobals<s.heap.objs.size:=(I.mod.glob.keeps I.bk).lt
 exact lt_trans (by decide) h
theorem d_write {h':Heap} {t':Nat} {ob:HO} (I:Inv X pins σ H s) (mu:Mut (H a)) (hs:Heap.SameBut a s.heap h') (he:∃q,h'.get? a=some q) (new:a3n X.prog X.w (upd H a ob) h' a ob):
  Inv X pins σ (upd H a ob) { s with heap:=h',toks:=t' }:=
 I.write (x:=a) (e:=a) mu (.inl rfl) (fun b q hb z=>(hs.2 b hb).trans z) he new
end
section
variable {X:Cx} {pins:List (Addr×Obj)} {σ:St} {H:Hp} {s:Shared} {a:Addr} {kvs:List (Key×V)} {k:Key} {u:Value} {A:Around} {E:Value->Shared->Prop}
end
def NoSl (i:Expr):Prop:=∀ov iv,subscripted i false ov iv=operate [ov,iv] (getItem ov iv)
def tDGet (td ty:TE):TE:=fun σ H Q=>td σ H fun x H1=>ty σ H1 fun y H2=>∃a v,x=.ref a/\DGet H2 a y (some v)/\Q v H2
def tDIn (ty td:TE):TE:=fun σ H Q=>ty σ H fun y H1=>td σ H1 fun x H2=>∃a o,x=.ref a/\DGet H2 a y o/\Q (.bl o.isSome) H2
def tDNotIn (ty td:TE):TE:=fun σ H Q=>ty σ H fun y H1=>td σ H1 fun x H2=>∃a o,x=.ref a/\DGet H2 a y o/\Q (.bl (!o.isSome)) H2
def sDPut (td ty tv:TE):TS:=fun D σ H=>tv σ H fun v H1=>td σ H1 fun x H2=>ty σ H2 fun y H3=>∃a H4,x=.ref a/\DPut H3 a y v H4/\D.nx σ H4
def sDAug (td ty tv:TE) (rd:V->V->Hp->VK->Prop):TS:=fun D σ H=>td σ H fun x H1=>ty σ H1 fun y H2=>∃a v,x=.ref a/\DGet H2 a y (some v)/\
 tv σ H2 fun y2 H3=>rd v y2 H3 fun z H4=>∃H5,DPut H4 a y z H5/\D.nx σ H5
def sDDel (td ty:TE):TS:=fun D σ H=>td σ H fun x H1=>ty σ H1 fun y H2=>∃a kvs k,x=.ref a/\H2 a=some (.dK kvs)/\y=kV k/\(valV kvs k).isSome=true/\D.nx σ (upd H2 a (.dK (b7d kvs k)))
section
variable {X:Cx} {o i e value:Expr} {pos pos' tpos:Pos} {td ty tv:TE}
end
def tDNewK:TE:=fun _ H Q=>∀p,H p=none->Q (.ref p) (upd H p (.dK []))
def tDNewT:TE:=fun _ H Q=>∀p,H p=none->Q (.ref p) (upd H p (.dT []))
section
variable {X:Cx} {pos:Pos}
end
def b5J:List (TE×TE)->St->Hp->(List (V×V)->Hp->Prop)->Prop
 | [],_,H,Q=>Q [] H
 | (tk,tv)::r,σ,H,Q=>tk σ H fun x H1=>tv σ H1 fun y H2=>b5J r σ H2 fun ps H3=>Q ((x,y)::ps) H3
abbrev VV:List (V×V)->List (Value×Value)->Prop:=Paired fun p q=>RelV p.1 q.1/\RelV p.2 q.2
def PPs (X:Cx) (pos:Pos) (keys:List (Option Expr)) (values:List Expr) (trs:List (TE×TE)):Prop:=
 ∀(pins:List (Addr×Obj)) (s:Shared) (σ:St) (H:Hp) (Q:List (V×V)->Hp->Prop),Inv X pins σ H s->b5J trs σ H Q->
  wpAny (model X.prog X.w) X.A (evalPairs (pairTrees keys values X.env pos)) (fun vs s'=>∃ps H',Inv X pins σ H' s'/\VV ps vs/\Q ps H') X.xe s
def mergeK (kvs more:List (Key×V)):List (Key×V):=more.foldl (fun acc kv=>putK acc kv.1 kv.2) kvs
def tDisp (trs:List (TE×TE)):TE:=fun σ H Q=>∀p,H p=none->b5J trs σ (upd H p (.dK [])) fun ps H2=>H2 p=some (.dK [])/\∃kvs:List (Key×V),ps=kvs.map (fun kv=>(kV kv.1,kv.2))/\kvs.length<=15/\Q (.ref p) (upd H2 p (.dK (mergeK [] kvs)))
structure M1 (X:Cx) (o:Expr) (m:Str) (apos:Pos) (e:Expr) (cpos:Pos):Prop where
 base:attributeBase o m X.env (eval o X.env)=eval o X.env
 few:((backTo cpos (starEach [e] X.env)).all (fun x=>!x.1) && (backToKw cpos (keywordEach [] X.env)).all (fun x=>x.1.isSome)
  && decide (([e]:List Expr).length+([]:List Keyword).length+(if ([]:List Keyword).isEmpty then 0 else 1)<30))=true
 line:(apos.endLine == cpos.line)=true
 trees:backTo cpos (starEach [e] X.env)=[(false,eval e X.env)]
structure M2 (X:Cx) (o:Expr) (m:Str) (apos:Pos) (e f:Expr) (cpos:Pos):Prop where
 base:attributeBase o m X.env (eval o X.env)=eval o X.env
 few:((backTo cpos (starEach [e,f] X.env)).all (fun x=>!x.1) && (backToKw cpos (keywordEach [] X.env)).all (fun x=>x.1.isSome)
  && decide (([e,f]:List Expr).length+([]:List Keyword).length+(if ([]:List Keyword).isEmpty then 0 else 1)<30))=true
 line:(apos.endLine == cpos.line)=true
 trees:backTo cpos (starEach [e,f] X.env)=[(false,eval e X.env),(false,eval f X.env)]
def IsD (H:Hp) (a:Addr):Prop:=(∃kvs,Rd H a (.dK kvs))\/∃kvs,Rd H a (.dT kvs)
section
variable {X:Cx} {pins:List (Addr×Obj)} {σ:St} {H:Hp} {s:Shared} {a:Addr} {y d:V} {u r:Value} {o:Option V} {A:Around} {E:Value->Shared->Prop}
end
def tDGet1 (td ty:TE):TE:=fun σ H Q=>td σ H fun x H1=>∃a,x=.ref a/\IsD H1 a/\ty σ H1 fun y H2=>∃o,DGet H2 a y o/\Q (o.getD .non) H2
def tDGet2 (td ty tx:TE):TE:=fun σ H Q=>td σ H fun x H1=>∃a,x=.ref a/\IsD H1 a/\ty σ H1 fun y H2=>tx σ H2 fun z H3=>∃o,DGet H3 a y o/\Q (o.getD z) H3
def tDPop1 (td ty:TE):TE:=fun σ H Q=>td σ H fun x H1=>∃a,x=.ref a/\IsD H1 a/\ty σ H1 fun y H2=>∃kvs k v,H2 a=some (.dK kvs)/\y=kV k/\valV kvs k=some v/\Q v (upd H2 a (.dK (b7d kvs k)))
def tDPop2 (td ty tx:TE):TE:=fun σ H Q=>td σ H fun x H1=>∃a,x=.ref a/\IsD H1 a/\ty σ H1 fun y H2=>tx σ H2 fun z H3=>∃kvs k,H3 a=some (.dK kvs)/\y=kV k/\
 (∀v,valV kvs k=some v->Q v (upd H3 a (.dK (b7d kvs k))))/\(valV kvs k=none->Q z H3)
section
variable {X:Cx} {o e f:Expr} {apos cpos:Pos} {td ty tx:TE}
end
end L2
namespace L3
open PySem
inductive D where
 | non|bl (b:Bool)|int (i:Int)|str (x:Str)|tup (ds:List D)|lst (ds:List D)|obj (c:String) (ns:List Str) (ds:List D)|fn (k:Nat) (ds:List D)
inductive O where
 | lst (ds:List D)|obj (c:String) (ns:List Str) (ds:List D)|dic (kvs:List (List Int×Int))|par (a:Nat) (o:O)|fdic (kvs:List (List Int×Int))|tab (kvs:List (D×D))
noncomputable instance decD:DecidableEq D:=fun a b=>Classical.propDecidable (a=b)
def O.val:O->D
 | .lst ds=>.lst ds
 | .obj c ns ds=>.obj c ns ds
 | .dic _=>.non
 | .par _ _=>.non
 | .fdic _=>.non
 | .tab _=>.non
def okK:Nat->D->Bool
 | _,.int _=>true
 | n+1,.tup ds=>ds.all (okK n)
 | _,_=>false
def okT:D->Bool
 | .tup ds=>ds.all (okK 5)
 | _=>false
inductive S where
 | sh (d:D)|own (o:O)|two (d:D) (a:Nat) (o:O)
def S.val:S->D
 | .sh d=>d
 | .own o=>o.val
 | .two d _ _=>d
def S.nd:S->Bool
 | .own (.dic _)=>false
 | .own (.par _ _)=>false
 | .own (.fdic _)=>false
 | .own (.tab _)=>false
 | .two _ _ _=>false
 | _=>true
inductive R where
 | ok (s:S)|exc (x:D)
abbrev MEnv:=List (Option S)
inductive Out where
 | next (ρ:MEnv)|brk (ρ:MEnv)|cont (ρ:MEnv)|ret (s:S)|exc (x:D)
abbrev ME:=MEnv->Option R
abbrev MC:=MEnv->Option Out
inductive RI where
 | ok (ds:List D)|exc (x:D)
abbrev MI:=MEnv->Option RI
abbrev MB:=D->MEnv->Option MEnv
@[reducible] def okD (d:D):Option R:=some (.ok (.sh d))
@[reducible] def okI (i:Int):Option R:=okD (.int i)
@[reducible] def okB (b:Bool):Option R:=okD (.bl b)
@[reducible] def okL (ds:List D):Option R:=some (.ok (.own (.lst ds)))
def a06 (r:Option R) (k:D->Option R):Option R:=match r with
 | some (.ok s)=>k s.val
 | some (.exc x)=>some (.exc x)
 | none=>none
def a4V (r:Option R) (k:S->Option Out):Option Out:=match r with
 | some (.ok s)=>k s
 | some (.exc x)=>some (.exc x)
 | none=>none
@[simp] theorem bindV_ok (s:S) (k:D->Option R):a06 (some (.ok s)) k=k s.val:=rfl
@[simp] theorem bindV_exc (x:D) (k:D->Option R):a06 (some (.exc x)) k=some (.exc x):=rfl
@[simp] theorem bindV_none (k:D->Option R):a06 none k=none:=rfl
@[simp] theorem bindO_ok (s:S) (k:S->Option Out):a4V (some (.ok s)) k=k s:=rfl
@[simp] theorem bindO_exc (x:D) (k:S->Option Out):a4V (some (.exc x)) k=some (.exc x):=rfl
@[simp] theorem bindO_none (k:S->Option Out):a4V none k=none:=rfl
@[simp] theorem S.val_sh (d:D):(S.sh d).val=d:=rfl
@[simp] theorem S.val_own (o:O):(S.own o).val=o.val:=rfl
@[simp] theorem O.val_lst (ds:List D):(O.lst ds).val=.lst ds:=rfl
@[simp] theorem O.val_obj (c:String) (ns:List Str) (ds:List D):(O.obj c ns ds).val=.obj c ns ds:=rfl
noncomputable def eVar (i:Nat):ME:=fun ρ=>match ρ[i]? with
 | some (some (.sh d))=>okD d
 | _=>none
noncomputable def eAny (i:Nat):ME:=fun ρ=>match ρ[i]? with
 | some (some (.own (.dic _)))=>none
 | some (some (.own (.par _ _)))=>none
 | some (some (.own (.fdic _)))=>none
 | some (some (.own (.tab _)))=>none
 | some (some (.two _ _ _))=>none
 | some (some s)=>okD s.val
 | _=>none
noncomputable def eC (d:D):ME:=fun _=>okD d
noncomputable def eUn (f:D->Option R) (a:ME):ME:=fun ρ=>a06 (a ρ) f
noncomputable def eBin (f:D->D->Option R) (a b:ME):ME:=fun ρ=>a06 (a ρ) fun x=>a06 (b ρ) fun y=>f x y
def a0X:List ME->MEnv->(List D->Option R)->Option R
 | [],_,k=>k []
 | e::es,ρ,k=>a06 (e ρ) fun d=>a0X es ρ fun ds=>k (d::ds)
def a0v (f:List D->Option R) (as:List ME):ME:=fun ρ=>a0X as ρ f
def flat:D->Bool
 | .non=>true|.bl _=>true|.int _=>true|.str _=>true|_=>false
def b3c:Option R->Option R
 | some (.ok s)=>if flat s.val then okD s.val else none
 | _=>none
def a0E (f:List D->Option R) (as:List ME):ME:=fun ρ=>b3c (a0X as ρ f)
def lim:Nat:=1000000
def eTup (as:List ME):ME:=a0v (fun ds=>if ds.length<=lim then okD (.tup ds) else none) as
def eLst (as:List ME):ME:=a0v (fun ds=>if ds.length<=lim then okL ds else none) as
def asB:D->(Bool->Option R)->Option R
 | .bl b,k=>k b
 | _,_=>none
def eAnd (a b:ME):ME:=fun ρ=>a06 (a ρ) fun x=>asB x fun c=>if c=true then b ρ else okB false
def eOr (a b:ME):ME:=fun ρ=>a06 (a ρ) fun x=>asB x fun c=>if c=true then okB true else b ρ
def dNot (x:D):Option R:=asB x fun c=>okB (!c)
def eNot (a:ME):ME:=eUn dNot a
def eIf (c a b:ME):ME:=fun ρ=>a06 (c ρ) fun x=>asB x fun t=>if t=true then a ρ else b ρ
def sSeq (a b:MC):MC:=fun ρ=>match a ρ with
 | some (.next ρ')=>b ρ'
 | o=>o
def a0Y:MC:=fun ρ=>some (.next ρ)
def sBrk:MC:=fun ρ=>some (.brk ρ)
def sCont:MC:=fun ρ=>some (.cont ρ)
def sSet (i:Nat) (e:ME):MC:=fun ρ=>a4V (e ρ) fun s=>some (.next (ρ.set i (some s)))
def sExpr (e:ME):MC:=fun ρ=>a4V (e ρ) fun _=>some (.next ρ)
def sRet (e:ME):MC:=fun ρ=>a4V (e ρ) fun s=>some (.ret s)
def asBO:D->(Bool->Option Out)->Option Out
 | .bl b,k=>k b
 | _,_=>none
def sIf (c:ME) (a b:MC):MC:=fun ρ=>a4V (c ρ) fun s=>asBO s.val fun t=>if t=true then a ρ else b ρ
def dem (i:Nat) (ρ:MEnv):MEnv:=match ρ[i]? with
 | some (some (.own (.dic _)))=>ρ
 | some (some (.own (.par _ _)))=>ρ
 | some (some (.own (.fdic _)))=>ρ
 | some (some (.own (.tab _)))=>ρ
 | some (some (.own o))=>ρ.set i (some (.sh o.val))
 | _=>ρ
def sDem (i:Nat) (c:MC):MC:=fun ρ=>c (dem i ρ)
def ownL (i:Nat) (ρ:MEnv) (k:List D->Option Out):Option Out:=match ρ[i]? with
 | some (some (.own (.lst ds)))=>k ds
 | _=>none
def a5d (i:Nat) (e:ME):MC:=fun ρ=>ownL i ρ fun ds=>a4V (e ρ) fun s=>if ds.length<lim then some (.next (ρ.set i (some (.own (.lst (ds++[s.val])))))) else none
def a76:D->Option (List D)
 | .lst ds=>some ds
 | .tup ds=>some ds
 | _=>none
def a9Y (i:Nat) (e:ME):MC:=fun ρ=>ownL i ρ fun ds=>a4V (e ρ) fun s=>match a76 s.val with
 | some es=>if ds.length+es.length<=lim then some (.next (ρ.set i (some (.own (.lst (ds++es)))))) else none
 | none=>none
def ixD (n:Nat) (i:Int):Option Nat:=if 0<=i then (if i<n then some i.toNat else none) else if -(n:Int)<=i then some (i+n).toNat else none
def a4c (i:Nat) (k e:ME):MC:=fun ρ=>a4V (e ρ) fun s=>ownL i ρ fun ds=>a4V (k ρ) fun z=>match z.val with
 | .int j=>(match ixD ds.length j with
  | some n=>some (.next (ρ.set i (some (.own (.lst (ds.set n s.val))))))
  | none=>none)
 | _=>none
def a1v (j:Nat):MB:=fun d ρ=>some (ρ.set j (some (.sh d)))
def setAll:List Nat->List D->MEnv->MEnv
 | j::js,d::ds,ρ=>setAll js ds (ρ.set j (some (.sh d)))
 | _,_,ρ=>ρ
def bTup (js:List Nat):MB:=fun d ρ=>match d with
 | .tup ds=>if ds.length=js.length then some (setAll js ds ρ) else none
 | _=>none
def forD (bd:MB) (body:MC):List D->MEnv->Option Out
 | [],ρ=>some (.next ρ)
 | d::ds,ρ=>match bd d ρ with
  | none=>none
  | some ρ1=>match body ρ1 with
   | some (.next ρ2)=>forD bd body ds ρ2
   | some (.cont ρ2)=>forD bd body ds ρ2
   | some (.brk ρ2)=>some (.next ρ2)
   | o=>o
def sFor (it:MI) (bd:MB) (body:MC):MC:=fun ρ=>match it ρ with
 | some (.ok ds)=>forD bd body ds ρ
 | some (.exc x)=>some (.exc x)
 | none=>none
def iSeq (e:ME):MI:=fun ρ=>match e ρ with
 | some (.ok s)=>(a76 s.val).map .ok
 | some (.exc x)=>some (.exc x)
 | none=>none
def rng (lo hi:Int):List D:=(List.range (hi - lo).toNat).map fun (k:Nat)=>D.int (lo+k)
def a5k (i:Int):Bool:=decide (-(2 ^ 62)<=i) && decide (i<2 ^ 62)
def iArg (e:ME) (ρ:MEnv) (k:D->Option RI):Option RI:=match e ρ with
 | some (.ok s)=>k s.val
 | some (.exc x)=>some (.exc x)
 | none=>none
def a05 (e:ME):MI:=fun ρ=>iArg e ρ fun x=>match x with
 | .int hi=>if a5k hi=true then some (.ok (rng 0 hi)) else none
 | _=>none
def b0o (a b:ME):MI:=fun ρ=>iArg a ρ fun x=>iArg b ρ fun y=>match x,y with
 | .int lo,.int hi=>if a5k lo=true/\a5k hi=true then some (.ok (rng lo hi)) else none
 | _,_=>none
def zipD:D->D->Option RI
 | .lst xs,.lst ys=>some (.ok (List.zipWith (fun u v=>D.tup [u,v]) xs ys))
 | .tup xs,.tup ys=>some (.ok (List.zipWith (fun u v=>D.tup [u,v]) xs ys))
 | _,_=>none
def iZip (a b:ME):MI:=fun ρ=>iArg a ρ fun x=>iArg b ρ fun y=>zipD x y
def a6I (bd:MB) (cond elt:ME) (ρ:MEnv):List D->List D->Option R
 | [],acc=>if acc.length<=lim then okL acc else none
 | d::ds,acc=>match bd d ρ with
  | none=>none
  | some ρ1=>a06 (cond ρ1) fun c=>asB c fun t=>if t=true then a06 (elt ρ1) fun x=>a6I bd cond elt ρ ds (acc++[x]) else a6I bd cond elt ρ ds acc
def a1c (js:List Nat) (ρ:MEnv):MEnv:=js.foldl (fun ρ j=>ρ.set j none) ρ
def a1R (js:List Nat) (it:MI) (bd:MB) (cond elt:ME):ME:=fun ρ=>match it ρ with
 | some (.ok ds)=>if ds.length<=lim then a6I bd cond elt (a1c js ρ) ds [] else none
 | some (.exc x)=>some (.exc x)
 | none=>none
def a23 (c:ME) (body:MC):Nat->MEnv->Option Out
 | 0,_=>none
 | n+1,ρ=>a4V (c ρ) fun s=>asBO s.val fun t=>if t=true then (match body ρ with
   | some (.next ρ2)=>a23 c body n ρ2
   | some (.cont ρ2)=>a23 c body n ρ2
   | some (.brk ρ2)=>some (.next ρ2)
   | o=>o) else some (.next ρ)
def b56 (fuel:MEnv->Nat) (c:ME) (body:MC):MC:=fun ρ=>a23 c body (fuel ρ) ρ
def a1y (n:Nat) (ds:List D):MEnv:=ds.map (fun d=>some (.sh d))++replicate (n - ds.length) none
def outR:Option Out->Option R
 | some (.ret s)=>some (.ok s)
 | some (.next _)=>okD .non
 | some (.exc x)=>some (.exc x)
 | _=>none
noncomputable def fnD (np n:Nat) (g:MC):List D->Option R:=fun ds=>if ds.length=np then outR (g (a1y n ds)) else none
def dAdd:D->D->Option R
 | .int i,.int j=>okI (i+j)
 | .str x,.str y=>if x.length+y.length<=lim then okD (.str (x++y)) else none
 | .tup xs,.tup ys=>if xs.length+ys.length<=lim then okD (.tup (xs++ys)) else none
 | .lst xs,.lst ys=>if xs.length+ys.length<=lim then okL (xs++ys) else none
 | _,_=>none
def dSub:D->D->Option R
 | .int i,.int j=>okI (i - j)
 | _,_=>none
def a5O (i:Int):Bool:=decide (-(2 ^ 64)<i) && decide (i<2 ^ 64)
def dMul:D->D->Option R
 | .int i,.int j=>if (a5O i || a5O j)=true then okI (i * j) else none
 | _,_=>none
def dRep (ds:List D):D->Option R
 | .int k=>if -(2 ^ 60)<=k/\k<2 ^ 60/\ds.length * k.toNat<=lim then okL (replicate k.toNat ds).flatten else none
 | _=>none
def eRep (a b:ME):ME:=fun ρ=>match a ρ with
 | some (.ok (.own (.lst ds)))=>a06 (b ρ) (dRep ds)
 | some (.exc x)=>some (.exc x)
 | _=>none
def dMod:D->D->Option R
 | .int i,.int j=>if 0<j then okI (i % j) else none
 | _,_=>none
def a7t:D->D->Option R
 | .int i,.int j=>if 0<j/\j<1073741824 then okI (i / j) else none
 | _,_=>none
def dCmp (p:Int->Int->Bool):D->D->Option R
 | .int i,.int j=>okB (p i j)
 | _,_=>none
def dLt:=dCmp fun i j=>decide (i<j)
def dLe:=dCmp fun i j=>decide (i<=j)
def dGt:=dCmp fun i j=>decide (j<i)
def dGe:=dCmp fun i j=>decide (j<=i)
def eqF:D->D->Option Bool
 | .int i,.int j=>some (decide (i=j))
 | .str x,.str y=>some (decide (x=y))
 | .bl x,.bl y=>some (decide (x=y))
 | .non,.non=>some true
 | .non,.int _=>some false|.int _,.non=>some false|.non,.str _=>some false|.str _,.non=>some false|.non,.bl _=>some false|.bl _,.non=>some false
 | .int _,.str _=>some false|.str _,.int _=>some false|.bl _,.str _=>some false|.str _,.bl _=>some false
 | _,_=>none
def dEq (x y:D):Option R:=match eqF x y with
 | some b=>okB b
 | none=>none
def dNe (x y:D):Option R:=match eqF x y with
 | some b=>okB (!b)
 | none=>none
def dIsN:D->Option R
 | .non=>okB true
 | _=>okB false
def b3f:D->Option R
 | .non=>okB false
 | _=>okB true
def atD {α:Type} (xs:List α) (i:Int):Option α:=(ixD xs.length i).bind fun j=>xs[j]?
def dIx:D->D->Option R
 | .tup ds,.int i=>(atD ds i).bind okD
 | .lst ds,.int i=>(atD ds i).bind okD
 | .str x,.int i=>if x.length<=lim then (atD x.cps.toList i).bind fun c=>okD (.str ⟨#[c]⟩) else none
 | _,_=>none
def dLen:D->Option R
 | .tup ds=>okI ds.length
 | .lst ds=>okI ds.length
 | .str x=>if x.length<=lim then okI x.length else none
 | _=>none
def intsOf:List D->Option (List Int)
 | []=>some []
 | .int i::r=>(intsOf r).map (i::·)
 | _::_=>none
def blsOf:List D->Option (List Bool)
 | []=>some []
 | .bl i::r=>(blsOf r).map (i::·)
 | _::_=>none
def dSum:D->Option R
 | .lst ds=>(intsOf ds).bind fun ns=>okI ns.sum
 | _=>none
def dAll:D->Option R
 | .lst ds=>(blsOf ds).bind fun bs=>okB (bs.all id)
 | _=>none
def dAny:D->Option R
 | .lst ds=>(blsOf ds).bind fun bs=>okB (bs.any id)
 | _=>none
def a40:D->Option R
 | .lst ds=>okD (.tup ds)
 | .tup ds=>okD (.tup ds)
 | _=>none
def b7i:D->Option R
 | .lst ds=>okL ds
 | .tup ds=>okL ds
 | _=>none
def a6H:D->D->Option R
 | .int lo,.int hi=>if a5k lo=true/\a5k hi=true/\(hi - lo).toNat<=lim then okL (rng lo hi) else none
 | _,_=>none
def kindD:D->String
 | .non => "NoneType" | .bl _ => "bool" | .int _ => "int" | .str _ => "str" | .tup _ => "tuple" | .lst _ => "list" | .obj c _ _=>c|.fn _ _ => "function"
def dIsT (T:String):D->Option R
 | .obj _ _ _=>none
 | .fn _ _=>none
 | d=>okB (kindD d == T || (kindD d == "bool" && T == "int"))
def f1 (F:D->Option R):List D->Option R
 | [d]=>F d
 | _=>none
def f2 (F:D->D->Option R):List D->Option R
 | [d,e]=>F d e
 | _=>none
def a22:ME:=eC (.bl true)
def dShl:D->D->Option R
 | .int i,.int j=>if 0<=j/\j<=1000000/\i.natAbs<2 ^ 64 then okI (i * 2 ^ j.toNat) else none
 | _,_=>none
def dShr:D->D->Option R
 | .int i,.int j=>if 0<=j then okI (i / 2 ^ j.toNat) else none
 | _,_=>none
def dBand:D->D->Option R
 | .int i,.int j=>if 0<=i/\0<=j then okI ((i.toNat &&& j.toNat:Nat):Int) else none
 | _,_=>none
def dBor:D->D->Option R
 | .int i,.int j=>if 0<=i/\0<=j then okI ((i.toNat ||| j.toNat:Nat):Int) else none
 | _,_=>none
def dPow:D->D->Option R
 | .int i,.int j=>if 0<=j/\j<=1000000/\i.natAbs<2 ^ 64 then okI (i ^ j.toNat) else none
 | _,_=>none
def dNeg:D->Option R
 | .int i=>okI (-i)
 | _=>none
def dAbs:D->Option R
 | .int i=>okI (if i<0 then -i else i)
 | _=>none
def dMax2:D->D->Option R
 | .int i,.int j=>okI (if j > i then j else i)
 | _,_=>none
def dMin2:D->D->Option R
 | .int i,.int j=>okI (if j<i then j else i)
 | _,_=>none
def dInt:D->Option R
 | .int i=>okI i
 | .bl b=>okI (if b then 1 else 0)
 | _=>none
def bitLen (i:Int):Nat:=if i == 0 then 0 else i.natAbs.log2+1
def dBitLen:D->Option R
 | .int i=>okI (bitLen i:Int)
 | _=>none
def truD:D->Option Bool
 | .non=>some false
 | .bl b=>some b
 | .int i=>some (i != 0)
 | .str y=>if y.length<=lim then some ((y.length:Int) != 0) else none
 | .tup ds=>some (!ds.isEmpty)
 | .lst ds=>some (!ds.isEmpty)
 | _=>none
def dTru (d:D):Option R:=(truD d).bind fun b=>okB b
def eTru (a:ME):ME:=eUn dTru a
def eChain (f g:D->D->Option R) (a b c:ME):ME:=fun ρ=>a06 (a ρ) fun x=>a06 (b ρ) fun y=>a06 (f x y) fun z=>asB z fun t=>if t=true then a06 (c ρ) fun w=>g y w else okB false
def enumD:D->Option RI
 | .lst xs=>some (.ok ((List.range xs.length).zipWith (fun (i:Nat) d=>D.tup [.int i,d]) xs))
 | .tup xs=>some (.ok ((List.range xs.length).zipWith (fun (i:Nat) d=>D.tup [.int i,d]) xs))
 | _=>none
def iEnum (a:ME):MI:=fun ρ=>iArg a ρ enumD
def eqD:D->D->Bool
 | .non,.non=>true
 | .bl a,.bl b=>a == b
 | .bl a,.int b=>(if a then 1 else 0) == b
 | .int a,.bl b=>a == (if b then 1 else 0)
 | .int a,.int b=>a == b
 | .str a,.str b=>a == b
 | _,_=>false
def inD (x:D) (ds:List D):Bool:=ds.any fun y=>eqD y x
def dIn (neg:Bool) (x y:D):Option R:=match a76 y with
 | some ds=>if flat x=true/\ds.all flat=true then okB (if neg then !inD x ds else inD x ds) else none
 | none=>none
def sIxD (n d:Nat):Option Int->Nat
 | none=>d
 | some v=>if v<0 then (v+(n:Int)).toNat else min v.toNat n
def cutD (ds:List D) (lo hi:Option Int):List D:=(ds.drop (sIxD ds.length 0 lo)).take (sIxD ds.length ds.length hi - sIxD ds.length 0 lo)
def a6G (x:D) (lo hi:Option Int):Option R:=match x with
 | .tup ds=>if sIxD ds.length 0 lo=0/\sIxD ds.length ds.length hi=ds.length then none else okD (.tup (cutD ds lo hi))
 | .lst ds=>okL (cutD ds lo hi)
 | _=>none
def partD (o:Option ME) (ρ:MEnv) (k:Option Int->Option R):Option R:=match o with
 | none=>k none
 | some e=>a06 (e ρ) fun d=>match d with
  | .int i=>k (some i)
  | _=>none
def a3C (e:ME) (lo hi:Option ME):ME:=fun ρ=>a06 (e ρ) fun x=>partD lo ρ fun l=>partD hi ρ fun h=>a6G x l h
def insD (k:Int):List Int->List Int
 | []=>[k]
 | x::r=>if k<x then k::x::r else if k=x then x::r else x::insD k r
def a7L (ns:List Int):List Int:=ns.foldr insD []
def fewD (ns:List Int):Bool:=decide (ns.length<=4) && ns.all fun n=>decide (0<=n) && decide (n<32)
def b0v:D->Option R
 | .lst ds=>(intsOf ds).bind fun ns=>if fewD ns=true then okL ((a7L ns).map D.int) else none
 | _=>none
def fldD (f:Str):List Str->List D->Option D
 | n::ns,d::ds=>if f == n then some d else fldD f ns ds
 | _,_=>none
def dFld (cs:List String) (f:Str):D->Option R
 | .obj c ns ds=>if cs.contains c=true then (fldD f ns ds).bind okD else none
 | _=>none
def a3z (m:Str) (tb:String->Option (List D->Option R)) (o:ME) (as:List ME):ME:=fun ρ=>a06 (o ρ) fun x=>match x with
 | .obj c ns ds=>if ns.contains m=true then none else (match tb c with
  | some F=>a0X as ρ fun vs=>F (.obj c ns ds::vs)
  | none=>none)
 | _=>none
def dIsC (tb:String->Option Bool):D->Option R
 | .obj c _ _=>(tb c).bind fun b=>okB b
 | _=>none
abbrev a4Y:=O->List D->Option O
abbrev MG:=MEnv->O->Option O
def a1B:List ME->MEnv->Option (List D)
 | [],_=>some []
 | e::es,ρ=>match e ρ with
  | some (.ok s)=>(a1B es ρ).map (s.val::·)
  | _=>none
def putN (f:Str):List Str->List Str
 | []=>[f]
 | n::r=>if n=f then n::r else n::putN f r
def putD (f:Str) (d:D):List Str->List D->List D
 | [],_=>[d]
 | n::ns,x::ds=>if n=f then d::ds else x::putD f d ns ds
 | _::_,[]=>[]
def a7r:MG:=fun _ o=>some o
def a4N (g h:MG):MG:=fun ρ o=>(g ρ o).bind (h ρ)
def a8L (cs:List String) (f:Str) (e:ME):MG:=fun ρ o=>match e ρ,o with
 | some (.ok s),.obj c ns ds=>if cs.contains c=true/\ns.length=ds.length/\ns.length<900 then some (.obj c (putN f ns) (putD f s.val ns ds)) else none
 | _,_=>none
def a5K (F:a4Y) (as:List ME):MG:=fun ρ o=>(a1B as ρ).bind (F o)
noncomputable def fnI (np n:Nat) (g:MG):a4Y:=fun o ds=>if ds.length+1=np then g (none::a1y (n - 1) ds) o else none
def a49 (c:String) (F:a4Y) (as:List ME):ME:=fun ρ=>a0X as ρ fun ds=>match F (.obj c [] []) ds with
 | some o=>some (.ok (.own o))
 | none=>none
def dMulS:D->D->Option R
 | .str x,.int n=>if x.length=1/\(n=1\/n=2) then okD (.str (if n=1 then x else ⟨x.cps++x.cps⟩)) else none
 | _,_=>none
def dNeNil:D->D->Option R
 | .lst ds,.lst []=>okB (!ds.isEmpty)
 | _,_=>none
def eqXs (f:D->D->Option Bool):List D->List D->Option Bool
 | [],[]=>some true
 | x::xs,y::ys=>(f x y).bind fun b=>(eqXs f xs ys).bind fun c=>some (b && c)
 | _,_=>some false
def eqX:Nat->D->D->Option Bool
 | 0,_,_=>none
 | _+1,.int i,.int j=>some (i == j)
 | _+1,.str x,.str y=>some (x == y)
 | n+1,.tup xs,.tup ys=>eqXs (eqX n) xs ys
 | n+1,.lst xs,.lst ys=>if xs.length=ys.length then eqXs (eqX n) xs ys else some false
 | _+1,_,_=>none
def dEqX (n:Nat) (x y:D):Option R:=(eqX n x y).bind fun b=>okB b
def dNeX (n:Nat) (x y:D):Option R:=(eqX n x y).bind fun b=>okB (!b)
def inX (n:Nat) (x:D):List D->Option Bool
 | []=>some false
 | y::ys=>(eqX n y x).bind fun b=>(inX n x ys).bind fun c=>some (b || c)
def dInX (neg:Bool) (n:Nat) (x:D):D->Option R
 | .lst ds=>(inX n x ds).bind fun b=>okB (if neg then !b else b)
 | _=>none
end L3
namespace L3
def sClear (i:Nat):MC:=fun ρ=>ownL i ρ fun _=>some (.next (ρ.set i (some (.own (.lst [])))))
def sRetV (i:Nat):MC:=fun ρ=>match ρ[i]? with
 | some (some s)=>if s.nd=true then some (.ret s) else none
 | _=>none
end L3
namespace L3
open PySem
def dRevL:D->Option R
 | .lst ds=>okL ds.reverse
 | _=>none
abbrev Tb:=List (List Int×Int)
def getI (kvs:Tb) (k:List Int):Option Int:=(kvs.find? fun p=>decide (p.1=k)).map (·.2)
def putI (kvs:Tb) (k:List Int) (v:Int):Tb:=
 if (kvs.any fun p=>decide (p.1=k))=true then kvs.map (fun p=>if p.1=k then (p.1,v) else p) else kvs++[(k,v)]
def ownT (i:Nat) (ρ:MEnv):Option Tb:=match ρ[i]? with
 | some (some (.own (.dic kvs)))=>some kvs
 | _=>none
def b4Z (r:Option R):Option (List Int):=match r with
 | some (.ok (.sh (.tup ds)))=>intsOf ds
 | _=>none
def eGet (i:Nat) (g:ME) (z:Int):ME:=fun ρ=>(ownT i ρ).bind fun kvs=>(b4Z (g ρ)).bind fun k=>okI ((getI kvs k).getD z)
def sNewT (i:Nat):MC:=fun ρ=>some (.next (ρ.set i (some (.own (.dic [])))))
def b5s (r:Option R):Option Int:=match r with
 | some (.ok (.sh (.int v)))=>some v
 | _=>none
def sPutT (i:Nat) (gk ge:ME):MC:=fun ρ=>(b5s (ge ρ)).bind fun v=>(ownT i ρ).bind fun kvs=>(b4Z (gk ρ)).bind fun k=>if kvs.length<lim then some (.next (ρ.set i (some (.own (.dic (putI kvs k v)))))) else none
def O.core:O->O
 | .par _ o=>o
 | o=>o
def O.put:O->O->O
 | .par a _,o'=>.par a o'
 | _,o'=>o'
abbrev MF:=O->List D->List D->Option (D×O)
def a7K (n a:Nat) (o:O) (ds es:List D):MEnv:=(a1y n (ds++.non::es)).set ds.length (some (.own (.par a o)))
def outP (j a:Nat):Option Out->Option (D×O)
 | some (.ret (.two d b o))=>if b=a then some (d,o) else none
 | some (.next ρ)=>match ρ[j]? with
  | some (some (.own (.par b o)))=>if b=a then some (.non,o) else none
  | _=>none
 | _=>none
open Classical in
noncomputable def fnP (j np n:Nat) (g:MC):MF:=fun o ds es=>if ds.length=j/\j+1+es.length=np then (if h:∃r,∀a,outP j a (g (a7K n a o ds es))=some r then some h.choose else none) else none
theorem b3Y {j np n:Nat} {g:MC} {o:O} {ds es:List D} {r:D×O} (h:fnP j np n g o ds es=some r):ds.length=j/\j+1+es.length=np/\∀a,outP j a (g (a7K n a o ds es))=some r:=by
 unfold fnP at h
 split at h
 ·rename_i c
  split at h
  ·rename_i x
   cases h
   exact ⟨c.1,c.2,x.choose_spec⟩
  ·cases h
 ·cases h
theorem fnP_e {j np n:Nat} {g:MC} {o:O} {ds es:List D} {r:D×O} (h1:ds.length=j) (h2:j+1+es.length=np) (h:∀a,outP j a (g (a7K n a o ds es))=some r):fnP j np n g o ds es=some r:=by
 unfold fnP
 rw [if_pos ⟨h1,h2⟩]
 have x:∃r,∀a,outP j a (g (a7K n a o ds es))=some r:=⟨r,h⟩
 rw [dif_pos x,←h 0,x.choose_spec 0]
abbrev MP:=MEnv->Option (D×MEnv)
def b4Y (i:Nat) (F:MF) (gs hs:List ME):MP:=fun ρ=>match ρ[i]? with
 | some (some (.own o))=>(a1B gs ρ).bind fun ds=>(a1B hs ρ).bind fun es=>(F o.core ds es).map fun p=>(p.1,ρ.set i (some (.own (o.put p.2))))
 | _=>none
def mBin (f:D->D->Option R) (g:MP) (h:ME):MP:=fun ρ=>(g ρ).bind fun p=>match h p.2 with
 | some (.ok s)=>(match f p.1 s.val with
  | some (.ok t)=>some (t.val,p.2)
  | _=>none)
 | _=>none
def b08 (g:MP):MC:=fun ρ=>(g ρ).map fun p=>.next p.2
def sSetM (i:Nat) (g:MP):MC:=fun ρ=>(g ρ).map fun p=>.next (p.2.set i (some (.sh p.1)))
def sRetP (j:Nat) (e:ME):MC:=fun ρ=>a4V (e ρ) fun s=>match ρ[j]? with
 | some (some (.own (.par a o)))=>some (.ret (.two s.val a o))
 | _=>none
def compM (js:List Nat) (bd:MB) (elt:MP):List D->MEnv->Option (List D×MEnv)
 | [],ρ=>some ([],ρ)
 | d::ds,ρ=>match bd d ρ with
  | none=>none
  | some ρ1=>(elt ρ1).bind fun p=>(compM js bd elt ds (a1c js p.2)).map fun q=>(p.1::q.1,q.2)
def clearJ (js:List Nat) (ρ:MEnv):Bool:=js.all fun j=>match ρ[j]? with
 | some (some _)=>false
 | _=>true
def mComp (js:List Nat) (it:MI) (bd:MB) (elt:MP):MP:=fun ρ=>match it ρ with
 | some (.ok ds)=>if ds.length<=lim/\clearJ js ρ=true then (compM js bd elt ds ρ).map fun p=>(.lst p.1,p.2) else none
 | _=>none
def b5h (i:Nat) (ρ:MEnv):Option (O×Tb):=match ρ[i]? with
 | some (some (.own o))=>(match o.core with
  | .dic kvs=>some (o,kvs)
  | _=>none)
 | _=>none
def eAt (i:Nat) (g:ME):ME:=fun ρ=>(b5h i ρ).bind fun p=>(b4Z (g ρ)).bind fun k=>(getI p.2 k).bind okI
def eHas (neg:Bool) (i:Nat) (g:ME):ME:=fun ρ=>(b5h i ρ).bind fun p=>(b4Z (g ρ)).bind fun k=>okB (neg != (getI p.2 k).isSome)
def sPutC (i:Nat) (gk ge:ME):MC:=fun ρ=>(b5s (ge ρ)).bind fun v=>(b5h i ρ).bind fun p=>(b4Z (gk ρ)).bind fun k=>if p.2.length<lim then some (.next (ρ.set i (some (.own (p.1.put (.dic (putI p.2 k v))))))) else none
def eLenC (i:Nat):ME:=fun ρ=>(b5h i ρ).bind fun p=>okI p.2.length
def iKeys (i:Nat):MI:=fun ρ=>(b5h i ρ).bind fun p=>some (.ok (p.2.map fun q=>D.tup (q.1.map D.int)))
def maxL (z:Int):List Int->Int
 | []=>z
 | [n]=>n
 | n::r=>max n (maxL z r)
def dMaxD (z:Int):D->Option R
 | .lst ds=>(intsOf ds).bind fun ns=>okI (maxL z ns)
 | _=>none
def dRange1L:D->Option R
 | .int i=>if a5k i=true/\i.toNat<=lim then okL (rng 0 i) else none
 | _=>none
def eFrz (i:Nat) (g:ME):ME:=fun ρ=>(b5h i ρ).bind fun p=>match g (ρ.set i (some (.own (.fdic p.2)))) with
 | some (.ok (.two _ _ _))=>none
 | r=>r
def stillT (i:Nat) (ρ:MEnv):Option Tb:=match ρ[i]? with
 | some (some (.own (.fdic kvs)))=>some kvs
 | _=>none
def eAtF (i:Nat) (g:ME):ME:=fun ρ=>(stillT i ρ).bind fun kvs=>(b4Z (g ρ)).bind fun k=>(getI kvs k).bind okI
def eCompK (i:Nat) (js:List Nat) (elt:ME):ME:=fun ρ=>(stillT i ρ).bind fun kvs=>if kvs.length<=lim then a6I (bTup js) a22 elt (a1c js ρ) (kvs.map fun p=>D.tup (p.1.map D.int)) [] else none
def b3x:MC:=fun _=>none
def eNever:ME:=fun _=>none
def b0u (f:List D->Option R) (n:Int) (as:List ME):ME:=fun ρ=>a0X as ρ fun ds=>f (ds++[.int n])
abbrev Td:=List (D×D)
noncomputable section
def a8M (kvs:Td) (k:D):Option D:=(kvs.find? fun p=>decide (p.1=k)).map (·.2)
def putT (kvs:Td) (k v:D):Td:=if (a8M kvs k).isSome=true then kvs.map (fun p=>if p.1=k then (p.1,v) else p) else kvs++[(k,v)]
def a7u (i:Nat) (ρ:MEnv):Option (O×Td):=match ρ[i]? with
 | some (some (.own o))=>(match o.core with
  | .tab kvs=>some (o,kvs)
  | _=>none)
 | _=>none
theorem a5G {i:Nat} {ρ:MEnv} {o:O} {kvs:Td} (h:a7u i ρ=some (o,kvs)):ρ[i]?=some (some (.own o))/\o.core=.tab kvs:=by
 unfold a7u at h
 split at h
 ·rename_i u hu
  split at h
  ·rename_i k hk
   cases h
   exact ⟨hu,hk⟩
  ·cases h
 ·cases h
def keyD (r:Option R):Option D:=match r with
 | some (.ok (.sh k))=>if okT k=true then some k else none
 | _=>none
theorem b1Y {r:Option R} {k:D} (h:keyD r=some k):r=okD k/\okT k=true:=by
 unfold keyD at h
 split at h
 ·split at h
  ·rename_i hk;cases h;exact ⟨rfl,hk⟩
  ·cases h
 ·cases h
def sNewD (i:Nat):MC:=fun ρ=>some (.next (ρ.set i (some (.own (.tab [])))))
def a8c (neg:Bool) (i:Nat) (g:ME):ME:=fun ρ=>(a7u i ρ).bind fun p=>(keyD (g ρ)).bind fun k=>okB (neg != (a8M p.2 k).isSome)
def b4s (i:Nat) (gk ge:ME):MC:=fun ρ=>match ge ρ with
 | some (.ok (.sh v))=>(a7u i ρ).bind fun p=>(keyD (gk ρ)).bind fun k=>if p.2.length<lim then some (.next (ρ.set i (some (.own (p.1.put (.tab (putT p.2 k v))))))) else none
 | _=>none
def b5d (i:Nat):ME:=fun ρ=>(a7u i ρ).bind fun p=>okI p.2.length
def a9c (i:Nat):ME:=fun ρ=>(a7u i ρ).bind fun p=>okL (p.2.map fun q=>D.tup [q.1,q.2])
theorem keyD_e {k:D} (h:okT k=true):keyD (okD k)=some k:=by unfold keyD okD;dsimp only;rw [if_pos h]
theorem b0w {i:Nat} {ρ:MEnv} {o:O} {kvs:Td} (h:ρ[i]?=some (some (.own o))) (hc:o.core=.tab kvs):a7u i ρ=some (o,kvs):=by unfold a7u;rw [h];dsimp only;rw [hc]
theorem hasD_e {n:Bool} {i:Nat} {g:ME} {ρ:MEnv} {o:O} {kvs:Td} {k:D} (h:ρ[i]?=some (some (.own o))) (hc:o.core=.tab kvs) (hk:g ρ=okD k) (ok:okT k=true):a8c n i g ρ=okB (n != (a8M kvs k).isSome):=by
 unfold a8c;rw [b0w h hc,hk];dsimp only [Option.bind_some];rw [keyD_e ok];rfl
theorem putD_s {i:Nat} {gk ge:ME} {ρ:MEnv} {o:O} {kvs:Td} {k v:D} (h:ρ[i]?=some (some (.own o))) (hc:o.core=.tab kvs) (hk:gk ρ=okD k) (hv:ge ρ=okD v) (ok:okT k=true) (hl:kvs.length<lim):b4s i gk ge ρ=some (.next (ρ.set i (some (.own (o.put (.tab (putT kvs k v))))))):=by
 unfold b4s;rw [hv];dsimp only [okD];rw [b0w h hc];dsimp only [Option.bind_some];rw [hk,keyD_e ok];dsimp only [Option.bind_some];rw [if_pos hl]
theorem lenD_e {i:Nat} {ρ:MEnv} {o:O} {kvs:Td} (h:ρ[i]?=some (some (.own o))) (hc:o.core=.tab kvs):b5d i ρ=okI kvs.length:=by unfold b5d;rw [b0w h hc];rfl
theorem items_e {i:Nat} {ρ:MEnv} {o:O} {kvs:Td} (h:ρ[i]?=some (some (.own o))) (hc:o.core=.tab kvs):a9c i ρ=okL (kvs.map fun q=>D.tup [q.1,q.2]):=by unfold a9c;rw [b0w h hc];rfl
theorem getD_none {kvs:Td} {k:D} (h:∀p∈kvs,p.1≠k):a8M kvs k=none:=by
 unfold a8M
 rw [List.find?_eq_none.mpr fun p hp=>by simpa using h p hp];rfl
theorem putT_new {kvs:Td} {k:D} (v:D) (h:∀p∈kvs,p.1≠k):putT kvs k v=kvs++[(k,v)]:=by
 unfold putT;rw [getD_none h];exact if_neg (by decide)
end
end L3
namespace L3
open PySem PySem.SeqAt
mutual
def IsK (h:Heap):D->Value->Prop
 | .int i,v=>∃t,v=.int i t
 | .tup ds,v=>∃a items,v=.ref a/\h.IsTuple a items/\IsKs h ds items.toList
 | .non,_=>False
 | .bl _,_=>False
 | .str _,_=>False
 | .lst _,_=>False
 | .obj _ _ _,_=>False
 | .fn _ _,_=>False
def IsKs (h:Heap):List D->List Value->Prop
 | [],vs=>vs=[]
 | d::ds,vs=>∃v r,vs=v::r/\IsK h d v/\IsKs h ds r
end
mutual
def b66:D->Int
 | .int i=>hashInt i
 | .tup ds=>reduceHash (Builtin.Tuple.tupleHashOf (a87 ds))
 | _=>0
def a87:List D->List Int
 | []=>[]
 | d::ds=>b66 d::a87 ds
end
mutual
def b5e:D->Nat
 | .tup ds=>a8d ds+1
 | _=>1
def a8d:List D->Nat
 | []=>0
 | d::ds=>b5e d+a8d ds
end
mutual
def depK:D->Nat
 | .tup ds=>a5a ds+1
 | _=>0
def a5a:List D->Nat
 | []=>0
 | d::ds=>max (depK d) (a5a ds)
end
theorem a3B {h:Heap} {i:Int} {v:Value}:IsK h (.int i) v↔∃t,v=.int i t:=by unfold IsK;exact Iff.rfl
theorem a32 {h:Heap} {ds:List D} {v:Value}:IsK h (.tup ds) v↔∃a items,v=.ref a/\h.IsTuple a items/\IsKs h ds items.toList:=by
 constructor
 ·intro x;unfold IsK at x;exact x
 ·intro x;unfold IsK;exact x
theorem a3p {h:Heap} {vs:List Value}:IsKs h [] vs↔vs=[]:=by unfold IsKs;exact Iff.rfl
theorem a1Y {h:Heap} {d:D} {ds:List D} {vs:List Value}:IsKs h (d::ds) vs↔∃v r,vs=v::r/\IsK h d v/\IsKs h ds r:=by
 constructor
 ·intro x;unfold IsKs at x;exact x
 ·intro x;unfold IsKs;exact x
theorem a77 {h:Heap} {a:Addr} {xs ys:Array Value} (x:h.IsTuple a xs) (y:h.IsTuple a ys):xs=ys:=by
 obtain ⟨o,ho,_,n,hd⟩:=x
 obtain ⟨o',ho',_,n',hd'⟩:=y
 obtain rfl:o=o':=Option.some.inj (ho.symm.trans ho')
 rw [hd] at hd'
 injection hd'
mutual
theorem IsK.inj {h:Heap}:∀{x y:D} {v:Value},IsK h x v->IsK h y v->x=y
 | .int i,y,v,hx,hy=>by
  obtain ⟨t,rfl⟩:=a3B.mp hx
  cases y with
  | int j=>obtain ⟨u,e⟩:=a3B.mp hy;cases e;rfl
  | tup ds=>obtain ⟨a,its,e,_⟩:=a32.mp hy;cases e
  | _=>unfold IsK at hy;exact hy.elim
 | .tup ds,y,v,hx,hy=>by
  obtain ⟨a,its,rfl,t1,k1⟩:=a32.mp hx
  cases y with
  | int j=>obtain ⟨u,e⟩:=a3B.mp hy;cases e
  | tup es=>
   obtain ⟨b,its',e,t2,k2⟩:=a32.mp hy
   cases e
   rw [a77 t2 t1] at k2
   rw [IsKs.inj k1 k2]
  | _=>unfold IsK at hy;exact hy.elim
 | .non,_,_,hx,_=>by unfold IsK at hx;exact hx.elim
 | .bl _,_,_,hx,_=>by unfold IsK at hx;exact hx.elim
 | .str _,_,_,hx,_=>by unfold IsK at hx;exact hx.elim
 | .lst _,_,_,hx,_=>by unfold IsK at hx;exact hx.elim
 | .obj _ _ _,_,_,hx,_=>by unfold IsK at hx;exact hx.elim
 | .fn _ _,_,_,hx,_=>by unfold IsK at hx;exact hx.elim
theorem IsKs.inj {h:Heap}:∀{xs ys:List D} {vs:List Value},IsKs h xs vs->IsKs h ys vs->xs=ys
 | [],ys,vs,hx,hy=>by
  cases ys with
  | nil=>rfl
  | cons y ys=>obtain ⟨v,r,e,_⟩:=a1Y.mp hy;rw [a3p.mp hx] at e;cases e
 | x::xs,ys,vs,hx,hy=>by
  obtain ⟨v,r,rfl,k1,t1⟩:=a1Y.mp hx
  cases ys with
  | nil=>cases a3p.mp hy
  | cons y ys=>
   obtain ⟨v',r',e,k2,t2⟩:=a1Y.mp hy
   cases e
   rw [IsK.inj k1 k2,IsKs.inj t1 t2]
end
theorem IsTuple.keepK {h h':Heap} {d a:Addr} {o:Obj} {es ep} {items:Array Value} (x:h.IsTuple a items) (ho:h.get? d=some o) (hd:o.data=.dict es ep) (hs:Heap.SameBut d h h'):h'.IsTuple a items:=by
 obtain ⟨o',ho',hc,n,hd'⟩:=x
 have hne:a≠d:=by
  rintro rfl
  obtain rfl:o'=o:=Option.some.inj (ho'.symm.trans ho)
  rw [hd] at hd';exact nomatch hd'
 exact ⟨o',(hs.2 a hne).trans ho',hc,n,hd'⟩
mutual
theorem IsK.keeps {h h':Heap} (k:∀a items,h.IsTuple a items->h'.IsTuple a items):∀{x:D} {v:Value},IsK h x v->IsK h' x v
 | .int i,v,hx=>a3B.mpr (a3B.mp hx)
 | .tup ds,v,hx=>by
  obtain ⟨a,its,e,t,q⟩:=a32.mp hx
  exact a32.mpr ⟨a,its,e,k _ _ t,IsKs.keeps k q⟩
 | .non,_,hx=>by unfold IsK at hx;exact hx.elim
 | .bl _,_,hx=>by unfold IsK at hx;exact hx.elim
 | .str _,_,hx=>by unfold IsK at hx;exact hx.elim
 | .lst _,_,hx=>by unfold IsK at hx;exact hx.elim
 | .obj _ _ _,_,hx=>by unfold IsK at hx;exact hx.elim
 | .fn _ _,_,hx=>by unfold IsK at hx;exact hx.elim
theorem IsKs.keeps {h h':Heap} (k:∀a items,h.IsTuple a items->h'.IsTuple a items):∀{xs:List D} {vs:List Value},IsKs h xs vs->IsKs h' xs vs
 | [],vs,hx=>a3p.mpr (a3p.mp hx)
 | x::xs,vs,hx=>by
  obtain ⟨v,r,e,k1,t1⟩:=a1Y.mp hx
  exact a1Y.mpr ⟨v,r,e,IsK.keeps k k1,IsKs.keeps k t1⟩
end
section
variable {prog:Program} {w:World} {E:Value->Shared->Prop}
theorem b45 {a:Addr} {s:Shared} {A:Around} {Q:Int->Shared->Prop} (hT:s.TypeIs (.ref a) "tuple") (hu:A.units<cLine)
  (body:wpAny (model prog w) A.in1 (Builtin.«tuple.__hash__» ⟨[.ref a],[]⟩) (fun fin s'=>∃n t,fin=.done (.ret (.int n t))/\Q (reduceHash n) s') E s):wpAny (model prog w) A (pyHash (.ref a)) Q E s:=by
 unfold pyHash
 first|unfold pyHashByItsType|skip
 first|refine wpAny_bind (wpAny_cRoomFor_or (.inr hu) ?_)|skip
 refine wpAny_bind (wpAny_specialOf hT F.slot_tuple_hash.lookup ?_)
 show wpAny _ _ (if (some (Value.builtin "tuple.__hash__") == some Value.none)=true then _ else _) Q E s
 rw [if_neg (by rw [beq_builtin_none];exact Bool.false_ne_true)]
 refine wpAny_bind (wpAny_specialOf hT F.slot_tuple_hash.lookup ?_)
 show wpAny _ _ (callSpecialIfBoundUnlessNone? (.ref a) "__hash__" _ >>= _) Q E s
 refine wpAny_bind (wpAny_callSpecialIfBoundUnlessNone?_slot hT F.slot_tuple_hash (wpAny_call_entry F.slot_tuple_hash hT F.entry_tuple_hash (wpAny_mono body ?_ fun _ _ x=>x) (F.args_tuple_hash_1 _)))
 rintro fin s' ⟨n,t,rfl,h⟩
 refine ⟨_,rfl,?_⟩
 show wpAny _ _ (if (decide (-(2:Int) ^ 63<=n) && decide (n<2 ^ 63))=true then _ else _) Q E _
 unfold reduceHash at h
 by_cases hr:(decide (-(2:Int) ^ 63<=n) && decide (n<2 ^ 63))=true
 ·rw [if_pos hr];rw [if_pos hr] at h;exact wpAny_pure h
 ·rw [if_neg hr];rw [if_neg hr] at h;exact wpAny_bind (wpAny_rule (wpAny_pure h))
mutual
theorem b3T:∀(k:D) (v:Value) (A:Around) (s:Shared) (Q:Int->Shared->Prop),IsK s.heap k v->A.units+depK k<cLine->Q (b66 k) { s with toks:=s.toks+b5e k }->wpAny (model prog w) A (pyHash v) Q E s
 | .int i,v,A,s,Q,x,hu,h=>by
  obtain ⟨t,rfl⟩:=a3B.mp x
  exact wpAny_pyHash_int h
 | .tup ds,v,A,s,Q,x,hu,h=>by
  obtain ⟨a,items,rfl,tu,ks⟩:=a32.mp x
  obtain ⟨o,ho,hc,n,hd⟩:=id tu
  refine b45 ⟨o,ho,hc⟩ (by omega) ?_
  show wpAny _ _ (Builtin.Tuple.tupleItemsOf (.ref a) >>= _) _ _ s
  refine wpAny_bind (wpAny_tupleItemsOf ho hd ?_)
  refine wpAny_bind ?_
  rw [←Array.forIn_toList]
  have hu':A.units+(a5a ds+1)<cLine:=hu
  refine a88 ds items.toList A.in1 s #[] _ ks (by show A.units+1+a5a ds<cLine;omega) fun b hb=>?_
  show wpAny _ _ (retInt (Builtin.Tuple.tupleHashOf b.toList)) _ _ _
  rw [hb]
  refine wpAny_bind (wpAny_mkInt (wpAny_pure ⟨_,_,rfl,?_⟩))
  have h':Q (reduceHash (Builtin.Tuple.tupleHashOf (a87 ds))) { s with toks:=s.toks+(a8d ds+1) }:=h
  simpa [Nat.add_assoc] using h'
 | .non,_,_,_,_,x,_,_=>by unfold IsK at x;exact x.elim
 | .bl _,_,_,_,_,x,_,_=>by unfold IsK at x;exact x.elim
 | .str _,_,_,_,_,x,_,_=>by unfold IsK at x;exact x.elim
 | .lst _,_,_,_,_,x,_,_=>by unfold IsK at x;exact x.elim
 | .obj _ _ _,_,_,_,_,x,_,_=>by unfold IsK at x;exact x.elim
 | .fn _ _,_,_,_,_,x,_,_=>by unfold IsK at x;exact x.elim
theorem a88:∀(ds:List D) (vs:List Value) (A:Around) (s:Shared) (b:Array Int) (Q:Array Int->Shared->Prop),IsKs s.heap ds vs->A.units+a5a ds<cLine->
  (∀b',b'.toList=b.toList++a87 ds->Q b' { s with toks:=s.toks+a8d ds })->
  wpAny (model prog w) A (forIn vs b fun x r=>do let h ←pyHash x;pure PUnit.unit;pure (ForInStep.yield (r.push h))) Q E s
 | [],vs,A,s,b,Q,x,hu,h=>by
  rw [a3p.mp x]
  exact wpAny_pure (h b (by simp [a87]))
 | d::ds,vs,A,s,b,Q,x,hu,h=>by
  obtain ⟨v,r,rfl,k1,t1⟩:=a1Y.mp x
  have hu':A.units+max (depK d) (a5a ds)<cLine:=hu
  rw [List.forIn_cons]
  refine wpAny_bind (wpAny_bind (b3T d v A s _ k1 (by omega) ?_))
  refine wpAny_bind (wpAny_pure (wpAny_pure ?_))
  refine a88 ds r A { s with toks:=s.toks+b5e d } _ Q t1 (by omega) fun b' hb=>?_
  have:=h b' (by rw [hb];simp [a87])
  have e:s.toks+a8d (d::ds)=s.toks+b5e d+a8d ds:=by show s.toks+(b5e d+a8d ds)=_;omega
  rw [e] at this
  exact this
end
theorem IsKs.length {h:Heap}:∀{ds:List D} {vs:List Value},IsKs h ds vs->ds.length=vs.length
 | [],vs,x=>by rw [a3p.mp x];rfl
 | d::ds,vs,x=>by obtain ⟨v,r,e,_,t⟩:=a1Y.mp x;rw [e,length_cons,length_cons,IsKs.length t]
mutual
theorem eqK_at:∀(x y:D) (v u:Value) (A:Around) (s:Shared),IsK s.heap x v->IsK s.heap y u->A.units+depK x<cLine->A.units+depK y<cLine->EqAt A s v u (decide (x=y))
 | .int i,y,v,u,A,s,hx,hy,h1,h2=>by
  obtain ⟨t,rfl⟩:=a3B.mp hx
  cases y with
  | int j=>
   obtain ⟨t',rfl⟩:=a3B.mp hy
   have e:decide ((D.int i)=D.int j)=(i == j):=by
    rw [Bool.eq_iff_iff,beq_iff_eq,decide_eq_true_eq]
    exact ⟨fun z=>by injection z,fun z=>by rw [z]⟩
   rw [e]
   exact EqAt.int_int i t j t'
  | tup es=>
   obtain ⟨b,its,rfl,tu,_⟩:=a32.mp hy
   rw [decide_eq_false (fun z=>by cases z)]
   exact EqAt.int_tuple i t tu (by omega)
  | _=>unfold IsK at hy;exact hy.elim
 | .tup ds,y,v,u,A,s,hx,hy,h1,h2=>by
  obtain ⟨a,its,rfl,tu,ks⟩:=a32.mp hx
  have h1':A.units+(a5a ds+1)<cLine:=h1
  cases y with
  | int j=>
   obtain ⟨t',rfl⟩:=a3B.mp hy
   rw [decide_eq_false (fun z=>by cases z)]
   exact EqAt.tuple_int j t' tu (by omega)
  | tup es=>
   obtain ⟨b,its2,rfl,tu2,ks2⟩:=a32.mp hy
   have h2':A.units+(a5a es+1)<cLine:=h2
   by_cases c:a=b
   ·subst c
    rw [a77 tu2 tu] at ks2
    rw [ks.inj ks2,decide_eq_true rfl]
    exact EqAt.same _
   ·have e:=RcAt.tuples tu tu2 (A:=A) (by omega) (e:=fun j=>decide (ds[j]?=es[j]?)) fun j l1 l2=>by
     have q:=b7b ds es its.toList its2.toList A.in1 s ks ks2 (by show A.units+1+_<_;omega) (by show A.units+1+_<_;omega) j (by simpa using l1) (by simpa using l2)
     simpa using q
    refine EqAt.of_refs c ?_
    have l1:ds.length=its.size:=by rw [IsKs.length ks,length_toList]
    have l2:es.length=its2.size:=by rw [IsKs.length ks2,length_toList]
    have eb:((List.range (min its.size its2.size)).all (fun j=>decide (ds[j]?=es[j]?)) && its.size == its2.size)=decide (D.tup ds=D.tup es):=by
     rw [Bool.eq_iff_iff,and_eq_true,all_eq_true,beq_iff_eq,decide_eq_true_eq]
     constructor
     ·rintro ⟨q1,q2⟩
      rw [show ds=es from List.ext_getElem? fun j=>by
       by_cases hj:j<its.size
       ·exact of_decide_eq_true (q1 j (mem_range.mpr (by omega)))
       ·rw [getElem?_eq_none (by omega),getElem?_eq_none (by omega)]]
     ·intro z
      injection z with z
      subst z
      exact ⟨fun j _=>decide_eq_true rfl,by omega⟩
    rw [eb] at e
    exact e
  | _=>unfold IsK at hy;exact hy.elim
 | .non,_,_,_,_,_,x,_,_,_=>by unfold IsK at x;exact x.elim
 | .bl _,_,_,_,_,_,x,_,_,_=>by unfold IsK at x;exact x.elim
 | .str _,_,_,_,_,_,x,_,_,_=>by unfold IsK at x;exact x.elim
 | .lst _,_,_,_,_,_,x,_,_,_=>by unfold IsK at x;exact x.elim
 | .obj _ _ _,_,_,_,_,_,x,_,_,_=>by unfold IsK at x;exact x.elim
 | .fn _ _,_,_,_,_,_,x,_,_,_=>by unfold IsK at x;exact x.elim
theorem b7b:∀(ds es:List D) (vs us:List Value) (A:Around) (s:Shared),IsKs s.heap ds vs->IsKs s.heap es us->A.units+a5a ds<cLine->A.units+a5a es<cLine->∀(j:Nat) (h1:j<vs.length) (h2:j<us.length),EqAt A s vs[j] us[j] (decide (ds[j]?=es[j]?))
 | [],es,vs,us,A,s,x,y,hu1,hu2,j,h1,h2=>by rw [a3p.mp x] at h1;cases h1
 | d::ds,[],vs,us,A,s,x,y,hu1,hu2,j,h1,h2=>by rw [a3p.mp y] at h2;cases h2
 | d::ds,e::es,vs,us,A,s,x,y,hu1,hu2,j,h1,h2=>by
  obtain ⟨v,r,rfl,k1,t1⟩:=a1Y.mp x
  obtain ⟨u,q,rfl,k2,t2⟩:=a1Y.mp y
  have hu1':A.units+max (depK d) (a5a ds)<cLine:=hu1
  have hu2':A.units+max (depK e) (a5a es)<cLine:=hu2
  cases j with
  | zero=>
   have z:=eqK_at d e v u A s k1 k2 (by omega) (by omega)
   have ee:decide ((d::ds)[0]?=(e::es)[0]?)=decide (d=e):=by
    rw [Bool.eq_iff_iff,decide_eq_true_eq,decide_eq_true_eq]
    exact ⟨fun z=>Option.some.inj z,fun z=>congrArg some z⟩
   rw [ee]
   exact z
  | succ j=>
   have z:=b7b ds es r q A s t1 t2 (by omega) (by omega) j (by simpa using h1) (by simpa using h2)
   simpa using z
end
mutual
theorem b1d:∀(k:D) (v:Value) (n:Nat) (A:Around) (s:Shared) (Q:Bool->Shared->Prop),IsK s.heap k v->depK k<=n->Q true s->wpAny (model prog w) A (eqIsQuiet n v) Q E s
 | .int i,v,n,A,s,Q,x,hn,h=>by
  obtain ⟨t,rfl⟩:=a3B.mp x
  rw [eqIsQuiet_byValue n (v:=.int i t) rfl]
  exact wpAny_pure h
 | .tup ds,v,n,A,s,Q,x,hn,h=>by
  obtain ⟨a,items,rfl,tu,ks⟩:=a32.mp x
  obtain ⟨o,ho,hc,m,hd⟩:=id tu
  have hn':a5a ds+1<=n:=hn
  cases n with
  | zero=>omega
  | succ n=>
   have hT:s.TypeIs (.ref a) "tuple" := ⟨o,ho,hc⟩
   unfold eqIsQuiet
   refine wpAny_bind (wpAny_specialOf hT F.slot_tuple_eq.lookup ?_)
   show wpAny _ _ (isInstance (.ref a) (.type "tuple") >>= _) _ _ s
   refine wpAny_bind (wpAny_isInstance hT isSubtype_tuple_tuple ?_)
   simp only [Bool.not_true,false_eq_true,if_false]
   refine wpAny_bind (wpAny_seqItems ho hd ?_)
   refine wpAny_bind ?_
   show wpAny _ _ (forIn items _ _) _ _ s
   rw [←Array.forIn_toList]
   refine wpAny_forIn_list _ (fun rest r s'=>r.1=none/\s'=s/\∃ds',IsKs s.heap ds' rest/\a5a ds'<=n/\∀d∈ds',d∈ds) _ ?_ ?_ _ _ ⟨rfl,rfl,ds,ks,by omega,fun _ z=>z⟩
   ·rintro v rest r s' ⟨hr,rfl,ds',hall,hdep,hsub⟩
    cases ds' with
    | nil=>cases a3p.mp hall
    | cons d ds'=>
     obtain ⟨v',r',e,k1,t1⟩:=a1Y.mp hall
     cases e
     have hd1:max (depK d) (a5a ds')<=n:=hdep
     refine wpAny_bind (b1c ds d (hsub d mem_cons_self) v n A s' _ k1 (by omega) ?_)
     simp only [Bool.not_true,false_eq_true,if_false]
     exact wpAny_pure ⟨rfl,rfl,ds',t1,by omega,fun z hz=>hsub z (mem_cons_of_mem _ hz)⟩
   ·rintro ⟨r1,r2⟩ s' ⟨hr,rfl,_⟩
    simp only at hr
    subst hr
    exact wpAny_pure h
 | .non,_,_,_,_,_,x,_,_=>by unfold IsK at x;exact x.elim
 | .bl _,_,_,_,_,_,x,_,_=>by unfold IsK at x;exact x.elim
 | .str _,_,_,_,_,_,x,_,_=>by unfold IsK at x;exact x.elim
 | .lst _,_,_,_,_,_,x,_,_=>by unfold IsK at x;exact x.elim
 | .obj _ _ _,_,_,_,_,_,x,_,_=>by unfold IsK at x;exact x.elim
 | .fn _ _,_,_,_,_,_,x,_,_=>by unfold IsK at x;exact x.elim
theorem b1c:∀(ds:List D) (d:D),d∈ds->∀(v:Value) (n:Nat) (A:Around) (s:Shared) (Q:Bool->Shared->Prop),IsK s.heap d v->depK d<=n->Q true s->wpAny (model prog w) A (eqIsQuiet n v) Q E s
 | [],d,hd,_,_,_,_,_,_,_,_=>nomatch hd
 | e::ds,d,hd,v,n,A,s,Q,x,hn,h=>by
  by_cases c:d=e
  ·exact b1d e v n A s Q (c▸x) (c▸hn) h
  ·exact b1c ds d ((mem_cons.mp hd).resolve_left c) v n A s Q x hn h
end
end
noncomputable def a6F (prog:Program) (w:World):HeapKind prog w D where
 is:=fun h d a=>IsK h d (.ref a)/\depK d<=6
 hash:=b66
 draws:=b5e
 room:=fun A=>A.units+6<cLine
 inj:=fun hx hy=>hx.1.inj hy.1
 keeps:=fun x ho hd hs=>⟨x.1.keeps fun a items t=>IsTuple.keepK t ho hd hs,x.2⟩
 pyHash:=fun hu hk h=>b3T _ _ _ _ _ hk.1 (by have:=hk.2;omega) h
 eqBool:=fun hu hx hy h=>eqK_at _ _ _ _ _ _ hx.1 hy.1 (by have:=hx.2;omega) (by have:=hy.2;omega) _ _ _ _ h
 quiet:=fun hk h=>b1d _ _ _ _ _ _ hk.1 (by have:=hk.2;omega) h
def a6S (a:Addr) (xs:List (D×Addr×Value)) (h:Heap):Prop:=((a == sysModules)=false/\xs.length<=sizeLine/\(xs.map (·.1)).Nodup)/\∃o es ep,h.get? a=some o/\o.ExactDict/\o.data=.dict es ep/\es.toList=xs.map fun x=>(⟨b66 x.1,.ref x.2.1,x.2.2⟩:DictEntry)
theorem a6S.stay {a:Addr} {xs:List (D×Addr×Value)} {h h':Heap} (x:a6S a xs h) (k:∀o,h.get? a=some o->h'.get? a=some o):a6S a xs h':=by
 obtain ⟨x1,o,es,ep,e,r⟩:=x
 exact ⟨x1,o,es,ep,k o e,r⟩
end L3
namespace L2
open PySem PySem.Spec PyProof.Rows
section
variable {X:Cx} {tg:Expr}
def iSq (K:Frag) (tl:TE):TI:=fun σ H R=>tl σ H fun x H1=>∃a,x=.ref a/\(((∃xs,SqL K H1 a xs)/\R (Itl K a) H1)\/((∃xs,SqT K H1 a xs)/\R (Itt K a) H1))
theorem pi_seq {l:Expr} {tl:TE} (hl:PE X l tl):PI X tg l (iSq X.K tl):=by
 intro pins s σ H R I h
 refine thn (hl pins s σ H _ I h) fun v s1 ⟨x,H1,I1,r1,a,e,q1⟩=>?_
 subst e
 cases r1
 have f1:∀b∈[s1.heap.objs.size],FpOk X pins H1 b:=fun b hb=>by
  rw [mem_singleton.mp hb]
  exact I1.fpOk (le_refl _) (I1.hok.fresh (le_refl _))
 rcases q1 with ⟨⟨xs,hq⟩,q⟩|⟨⟨xs,hq⟩,q⟩
 ·obtain ⟨its,rv,p,hz⟩:=I1.list hq
  exact wpAny_pyIter_list p.isList ⟨s1.heap.objs.size,[s1.heap.objs.size],_,_,H1,rfl,I1.kept (t':=s1.toks) (fun b o e=>get?_push_of_some _ e),b5z a _,⟨_,get?_push_size _ rfl,rfl,rfl⟩,f1,q⟩
 ·obtain ⟨its,rv,p,hz⟩:=I1.tuple hq
  exact wpAny_pyIter_tuple (show s1.heap.IsTuple a its.toArray from p) ⟨s1.heap.objs.size,[s1.heap.objs.size],_,_,H1,rfl,I1.kept (t':=s1.toks) (fun b o e=>get?_push_of_some _ e),b4a a _,⟨_,get?_push_size _ rfl,rfl,rfl⟩,f1,q⟩
end
def clOf (scope:Scope) (env:PySem.Env):List (Str×Addr):=scope.names.foldl (fun cs x=>if x.2 == .free then (x.1,(env.cells.lookup x.1).getD 0)::cs else cs) []
def a2x (sc psc:Scope) (vars:List Str):Bool:=
 (sc.kind == .function) && sc.names.all fun y=>(sc.names.lookup y.1 == some y.2) && (match y.2 with
  | .local=>vars.contains y.1
  | .cell=>false
  | .free=>psc.names.lookup y.1 == some .cell || psc.names.lookup y.1 == some .free
  | _=>true)
def a5V (N vars:List Str) (js:List Nat):Bool:=(List.range N.length).all fun i=>js.contains i || !(vars.contains (N.getD i (Str.ofString "")))
def a4n (js:List Nat) (σ:St):St:=js.foldl (fun σ j=>σ.set j none) σ
theorem a5S (js:List Nat):∀σ:St,(a4n js σ).length=σ.length:=by
 induction js with
 | nil=>intro σ;rfl
 | cons j js ih=>intro σ;show (a4n js (σ.set j none)).length=_;rw [ih,length_set]
theorem b3b (js:List Nat):∀(σ:St) (i:Nat) (v:V),(a4n js σ)[i]?=some (some v)->i∉js/\σ[i]?=some (some v):=by
 induction js with
 | nil=>intro σ i v h;exact ⟨by simp,h⟩
 | cons j js ih=>
  intro σ i v h
  obtain ⟨h1,h2⟩:=ih (σ.set j none) i v h
  by_cases hj:j=i
  ·subst hj
   by_cases hl:j<σ.length
   ·rw [getElem?_set_self hl] at h2;cases h2
   ·rw [getElem?_eq_none (by rw [length_set];omega)] at h2;cases h2
  ·rw [getElem?_set_ne hj] at h2
   exact ⟨by simp [h1,Ne.symm hj],h2⟩
section
variable {sc psc:Scope} {vars:List Str}
theorem a7C (h:a2x sc psc vars=true):sc.kind=.function:=by
 unfold a2x at h
 exact eq_of_beq (Bool.and_eq_true_iff.mp h).1
theorem a8g (h:a2x sc psc vars=true):∀y∈sc.names,sc.names.lookup y.1=some y.2/\(y.2=.local->y.1∈vars)/\y.2≠.cell/\(y.2=.free->psc.names.lookup y.1=some .cell\/psc.names.lookup y.1=some .free):=by
 intro y hy
 unfold a2x at h
 have h2:=all_eq_true.mp (Bool.and_eq_true_iff.mp h).2 y hy
 obtain ⟨h3,h4⟩:=Bool.and_eq_true_iff.mp h2
 refine ⟨eq_of_beq h3,fun e=>?_,fun e=>?_,fun e=>?_⟩
 ·rw [e] at h4;exact List.contains_iff_mem.mp h4
 ·rw [e] at h4;cases h4
 ·rw [e] at h4
  rcases Bool.or_eq_true_iff.mp h4 with z|z
  ·exact .inl (eq_of_beq z)
  ·exact .inr (eq_of_beq z)
theorem a3l {α β:Type} [BEq α] [LawfulBEq α]:∀{l:List (α×β)} {x:α} {v:β},l.lookup x=some v->(x,v)∈l
 | [],_,_,h=>by cases h
 | (y,w)::l,x,v,h=>by
  rw [lookup_cons] at h
  cases hb:x == y with
  | true=>
   rw [hb] at h
   cases h
   rw [eq_of_beq hb]
   exact mem_cons_self
  | false=>
   rw [hb] at h
   exact mem_cons_of_mem _ (a3l h)
end
theorem clOf_in (scope:Scope) (env:PySem.Env):∀(l:List (Str×NameKind)) (acc:List (Str×Addr)),(∀p∈acc,env.cells.lookup p.1=some p.2)->(∀y∈l,y.2=.free->∃c,env.cells.lookup y.1=some c)->
  ∀p∈l.foldl (fun cs x=>if x.2 == .free then (x.1,(env.cells.lookup x.1).getD 0)::cs else cs) acc,env.cells.lookup p.1=some p.2:=by
 intro l
 induction l with
 | nil=>intro acc h _;exact h
 | cons y l ih=>
  intro acc h hf
  rw [foldl_cons]
  refine ih _ ?_ fun z hz=>hf z (mem_cons_of_mem _ hz)
  split
  ·rename_i hb
   intro p hp
   rcases mem_cons.mp hp with e|hp
   ·obtain ⟨c,hc⟩:=hf y mem_cons_self (eq_of_beq hb)
    rw [e,hc]
    rfl
   ·exact h p hp
  ·exact h
theorem clOf_has (scope:Scope) (env:PySem.Env):∀(l:List (Str×NameKind)) (acc:List (Str×Addr)) (x:Str),((x,NameKind.free)∈l\/∃c,(x,c)∈acc)->
  ∃c,(x,c)∈l.foldl (fun cs x=>if x.2 == .free then (x.1,(env.cells.lookup x.1).getD 0)::cs else cs) acc:=by
 intro l
 induction l with
 | nil=>
  intro acc x h
  rcases h with h|h
  ·cases h
  ·exact h
 | cons y l ih=>
  intro acc x h
  rw [foldl_cons]
  refine ih _ x ?_
  rcases h with h|⟨c,h⟩
  ·rcases mem_cons.mp h with e|h
   ·subst e
    exact .inr ⟨_,by rw [if_pos (by rfl)];exact mem_cons_self⟩
   ·exact .inl h
  ·refine .inr ⟨c,?_⟩
   split
   ·exact mem_cons_of_mem _ h
   ·exact h
theorem a6J {scope:Scope} {env:PySem.Env} (hf:∀y∈scope.names,y.2=.free->∃c,env.cells.lookup y.1=some c):closureFor scope env=pure (clOf scope env):=by
 have go:∀(l:List (Str×NameKind)) (acc:List (Str×Addr)),(∀y∈l,y.2=.free->∃c,env.cells.lookup y.1=some c)->
   (forIn l acc fun x cs=>do
    if x.2 == .free then pure (ForInStep.yield ((x.1,←cellOf env x.1)::cs)) else pure (ForInStep.yield cs):Sem (List (Str×Addr)))=
   pure (l.foldl (fun cs x=>if x.2 == .free then (x.1,(env.cells.lookup x.1).getD 0)::cs else cs) acc):=by
  intro l
  induction l with
  | nil=>intro acc _;rfl
  | cons y l ih=>
   intro acc h
   rw [List.forIn_cons,foldl_cons]
   cases hb:y.2 == NameKind.free with
   | true=>
    obtain ⟨c,hc⟩:=h y mem_cons_self (eq_of_beq hb)
    have e1:cellOf env y.1=pure c:=by unfold cellOf;rw [hc]
    simp only [if_true,e1,pure_bind,hc,Option.getD_some]
    exact ih _ fun z hz=>h z (mem_cons_of_mem _ hz)
   | false=>
    simp only [false_eq_true,if_false,pure_bind]
    exact ih _ fun z hz=>h z (mem_cons_of_mem _ hz)
 have:=go scope.names [] hf
 unfold closureFor
 simpa [clOf] using this
def a21 (X:Cx) (scope:Scope) (fp:List Addr) (s:Shared) (H:Hp) (C:Addr):Cx:=
 { X with s₀:=s,H₀:=H,env:=compEnvC scope (clOf scope X.env) C X.env,outer:=X.stack,ex:=fp,fn:=fun _=>false,pn:=[],xe:=fun _ _=>False }
theorem a70 (f:Str->NameKind->NameKind):∀(l:List (Str×NameKind)) (x:Str),(l.map fun y=>(y.1,f y.1 y.2)).lookup x=(l.lookup x).map (f x)
 | [],_=>rfl
 | (n,k)::l,x=>by
  rw [map_cons,lookup_cons,lookup_cons]
  cases hb:x == n with
  | true=>rw [eq_of_beq hb];rfl
  | false=>exact a70 f l x
theorem a5P (scope:Scope) (env:PySem.Env) (x:Str):(relabel scope env).names.lookup x=(scope.names.lookup x).map fun k=>if (k == NameKind.free && env.scope.kind == .function && env.kindOf x == some .cell)=true then NameKind.cell else k:=by
 rw [←a70 (fun n k=>if (k == NameKind.free && env.scope.kind == .function && env.kindOf n == some .cell)=true then NameKind.cell else k)]
 unfold relabel
 dsimp only
 congr 1
 refine List.map_congr_left fun y _=>?_
 obtain ⟨n,k⟩:=y
 dsimp only
 split <;> rfl
theorem a5e {scope psc:Scope} {env:PySem.Env} {vars:List Str} {x:Str} (hc:a2x scope psc vars=true) (h:(relabel scope env).names.lookup x=some .cell\/(relabel scope env).names.lookup x=some .free):scope.names.lookup x=some .free:=by
 rw [a5P] at h
 cases hl:scope.names.lookup x with
 | none=>rw [hl] at h;simp at h
 | some k=>
  obtain ⟨_,h2,h3,_⟩:=a8g hc _ (a3l hl)
  rw [hl] at h
  cases k with
  | free=>rfl
  | cell=>exact absurd rfl h3
  | _=>simp at h
theorem b2F {scope psc:Scope} {env:PySem.Env} {vars:List Str} {x:Str} (hc:a2x scope psc vars=true) (h:Vis (relabel scope env) x):
  (x∈vars)\/(scope.names.lookup x=some .free/\((relabel scope env).names.lookup x=some .cell\/(relabel scope env).names.lookup x=some .free)):=by
 rcases h with h|h|h
 ·rw [a5P] at h
  cases hl:scope.names.lookup x with
  | none=>rw [hl] at h;simp at h
  | some k=>
   obtain ⟨_,h2,h3,_⟩:=a8g hc _ (a3l hl)
   rw [hl] at h
   cases k with
   | «local»=>exact .inl (h2 rfl)
   | cell=>exact absurd rfl h3
   | free=>
    simp only [Option.map_some] at h
    split at h <;> simp at h
   | _=>simp at h
 ·exact .inr ⟨a5e hc (.inl h),.inl h⟩
 ·exact .inr ⟨a5e hc (.inr h),.inr h⟩
theorem b3h {scope psc:Scope} {env:PySem.Env} {vars:List Str} (hc:a2x scope psc vars=true) (hf:∀y∈scope.names,y.2=.free->∃c,env.cells.lookup y.1=some c):
  (∀x c,(clOf scope env).lookup x=some c->env.cells.lookup x=some c)/\∀x,scope.names.lookup x=some .free->∃c,(clOf scope env).lookup x=some c/\env.cells.lookup x=some c:=by
 have h1:∀x c,(clOf scope env).lookup x=some c->env.cells.lookup x=some c:=fun x c e=>clOf_in scope env scope.names [] (fun _ z=>nomatch z) hf (x,c) (a3l e)
 refine ⟨h1,fun x e=>?_⟩
 obtain ⟨c,hm⟩:=clOf_has scope env scope.names [] x (.inl (a3l e))
 cases q:(clOf scope env).lookup x with
 | some d=>exact ⟨d,rfl,h1 x d q⟩
 | none=>
  have:=List.lookup_eq_none_iff.mp q _ hm
  simp at this
section
variable {X:Cx} {pins:List (Addr×Obj)} {σ:St} {H:Hp} {s:Shared} {scope:Scope} {vars:List Str} {js:List Nat} {fp:List Addr} {C:Addr} {h₁:Heap} {tk:Nat}
theorem a8f (I:Inv X pins σ H s) (hc:a2x scope X.env.scope vars=true):∀y∈scope.names,y.2=.free->∃c,X.env.cells.lookup y.1=some c:=fun y hy e=>by
 obtain ⟨_,_,_,h⟩:=a8g hc y hy
 exact I.ok.has y.1 (h e)
theorem inv_comp (I:Inv X pins σ H s) (hc:a2x scope X.env.scope vars=true) (hj:a5V X.N vars js=true) (hC:C=s.heap.objs.size) (hfp:∀b∈fp,FpOk X pins H b) (hfo:∀b∈fp,b<s.heap.objs.size)
  {m:Str->Option Value} (hns:h₁.Ns C m) (keep:∀b o,s.heap.get? b=some o->h₁.get? b=some o):
  Inv (a21 X scope fp s H C) [] (a4n js σ) H { s with heap:=h₁,toks:=tk }:=by
 have hf:=a8f I hc
 obtain ⟨cl1,cl2⟩:=b3h hc hf
 have ok:(a21 X scope fp s H C).Ok:=by
  refine ⟨I.ok.mod,?_,I.ok.glob,I.ok.blt,le_of_eq hC.symm,fun x y c h1 h2=>I.ok.inj x y c (cl1 x c h1) (cl1 y c h2),fun x hx=>?_,(fun x c z=>nomatch z),I.ok.hd,I.ok.frames,Or.inl rfl,fun b hb=>?_,I.bs,le_trans I.ok.bsz I.sz,fun b o e hb=>?_,fun b hb z=>?_,I.stack,I.stkFree⟩
  ·show scope.kind=.function
   exact a7C hc
  ·obtain ⟨c,z,_⟩:=cl2 x (a5e hc hx)
   exact ⟨c,z⟩
  ·obtain ⟨_,_,_,_,f4,_⟩:=hfp b hb
   refine ⟨fun z=>?_,fun x c e=>f4 x c (cl1 x c e)⟩
   have h1:=hfo b hb
   have h2:b=C:=z
   rw [h2,hC] at h1
   exact lt_irrefl _ h1
  ·obtain ⟨_,_,_,f3,_⟩:=hfp b hb
   rcases f3 with z|z
   ·exact I.ok.noex b o e z
   ·exact absurd (lt_of_lt_of_le (lt_size (I.ok.bs b o e).1) z) (lt_irrefl _)
  ·obtain ⟨_,f1,f2,_⟩:=hfp b hb
   rcases mem_cons.mp (I.stkSub b z) with e|e
   ·exact f1 e
   ·exact f2 e
 refine ⟨ok,rfl,I.bare,Un.kept keep,⟨m,hns,fun i x v e1 e2 e3=>?_⟩,fun x c e=>?_,?_,fun x c e=>I.freeC x c (cl1 x c e),(fun p hp=>nomatch hp),I.hok.kept keep,?_⟩
 ·obtain ⟨nj,e2⟩:=b3b js σ i v e2
  rcases b2F hc e3 with hm|⟨ef,hk⟩
  ·exfalso
   have hi:i<X.N.length:=(List.getElem?_eq_some_iff.mp e1).1
   have hq:=all_eq_true.mp hj i (mem_range.mpr hi)
   rcases Bool.or_eq_true_iff.mp hq with z|z
   ·exact nj (List.contains_iff_mem.mp z)
   ·rw [getD_eq_getElem?_getD,show X.N[i]?=some x from e1] at z
    have hm':vars.contains x=true:=List.contains_iff_mem.mpr hm
    rw [Option.getD_some,hm'] at z
    cases z
  ·obtain ⟨c,z1,z2⟩:=cl2 x ef
   obtain ⟨m0,_,hl⟩:=I.loc
   obtain ⟨_,_,_,hp⟩:=a8g hc _ (a3l ef)
   have hv:Vis X.env.scope x:=(hp rfl).elim (fun z=>.inr (.inl z)) fun z=>.inr (.inr z)
   obtain ⟨u,r,l⟩:=hl i x v e1 e2 hv
   refine ⟨u,r,.inr ⟨hk,c,z1,?_⟩⟩
   rcases l with ⟨k,_⟩|⟨_,c',e,q⟩
   ·have k':X.env.scope.names.lookup x=some .local:=k
    rcases hp rfl with z|z
    ·have z':X.env.scope.names.lookup x=some .cell:=z
     rw [k'] at z';cases z'
    ·have z':X.env.scope.names.lookup x=some .free:=z
     rw [k'] at z';cases z'
   ·rw [z2] at e
    cases e
    obtain ⟨o,ho,hd⟩:=q
    exact ⟨o,keep _ o ho,hd⟩
 ·obtain ⟨v,o,ho,hd⟩:=I.cell x c (cl1 x c e)
  exact ⟨v,o,keep _ o ho,hd⟩
 ·exact I.hok.fresh (le_of_eq hC.symm)
 ·rw [a5S]
  exact I.len
end
abbrev Fl:Value->Shared->Prop:=fun _ _=>False
theorem fl {α:Type} {M:Model} {A:Around} {t:Sem α} {Q Q':α->Shared->Prop} {E:Value->Shared->Prop} {s:Shared} (h:wpAny M A t Q Fl s) (k:∀a s,Q a s->Q' a s):wpAny M A t Q' E s:=wpAny_mono h k fun _ _ z=>z.elim
def b7k (ifs:List Expr) (env:PySem.Env):Sem Bool:=forIn ifs true fun c r=>if r=true then do let ok ←isTrue c env (eval c env);pure (ForInStep.yield ok) else pure (ForInStep.yield r)
theorem b7j {prog:Program} {w:World} {A:Around} {R:Result->Shared->Prop} {s:Shared} {elt target iter:Expr} {ifs:List Expr} {scope:Scope} {pos:Pos} {it acc:Value} {env:PySem.Env} (Iv:Nat->Shared->Prop)
  (turn:∀n s,Iv n s->wpAny (model prog w) A (pyNext it) (fun r s₁=>match r with
   | none=>R (.ok .next) s₁
   | some v=>wpAny (model prog w) A (letOwnedTupleGo target it v) (fun _ s₂=>wpAny (model prog w) A (assign target env v) (fun _ s₃=>wpAny (model prog w) A (b7k ifs env) (fun ok s₄=>
     if ok=true then wpAny (model prog w) A (eval elt env) (fun x s₅=>wpAny (model prog w) A (call (.builtin "list.append") [acc,x]) (fun _ s₆=>∃m,m<n/\Iv m s₆) Fl s₅) Fl s₄
     else ∃m,m<n/\Iv m s₄) Fl s₃) Fl s₂) Fl s₁) Fl s)
  (n:Nat) (h:Iv n s):codeAny (model prog w) A (.compLoop (.ListComp elt [⟨target,iter,ifs,0⟩] scope pos) 0 it acc env) R s:=by
 refine codeAny_loop rfl Iv (fun n s hI=>?_) n h
 show wpAny _ A ((compTurn (.ListComp elt [⟨target,iter,ifs,0⟩] scope pos) 0 it acc env).onRaise _) _ _ s
 refine wpAny_noted ?_
 rw [compTurn_list]
 refine wpAny_bind (wpAny_standAt (wpAny_bind (fl (turn n s hI) fun r s₁ h₁=>?_)))
 cases r with
 | none=>exact wpAny_pure h₁
 | some v=>
  refine wpAny_bind (fl h₁ fun _ s₂ h₂=>wpAny_bind (fl h₂ fun _ s₃ h₃=>wpAny_bind (fl h₃ fun ok s₄ h₄=>?_)))
  cases ok with
  | false=>exact wpAny_pure ⟨rfl,h₄⟩
  | true=>exact wpAny_bind (wpAny_bind (fl h₄ fun x s₅ h₅=>wpAny_bind (fl h₅ fun _ s₆ h₆=>wpAny_pure (wpAny_pure ⟨rfl,h₆⟩))))
def PIf (X:Cx) (ifs:List Expr) (t:TT):Prop:=∀(pins:List (Addr×Obj)) (s:Shared) (σ:St) (H:Hp) (Q:Bool->Hp->Prop),Inv X pins σ H s->t σ H Q->wpAny (model X.prog X.w) X.A (b7k ifs X.env) (TP X pins σ Q) X.xe s
def tTrue:TT:=fun _ H Q=>Q true H
theorem b6l {X:Cx}:PIf X [] tTrue:=fun pins s σ H Q I h=>wpAny_tests_nil ⟨H,I,h⟩
theorem pif_one {X:Cx} {c:Expr} {t:TT} (h:PT X c t):PIf X [c] t:=fun pins s σ H Q I q=>wpAny_tests_one (h pins s σ H Q I q)
def CompW (J:It) (g:TG) (tt:TT) (te:TE) (a:Addr) (Q:VK) (W:Nat->Nat->St->List V->Hp->Prop):Prop:=∀i m σ ys H,W i m σ ys H->H a=some (.lst ys)/\
 ((J.stop i H/\Q (.ref a) H)\/(J.go i H/\∀x H1,J.yld i H x H1->g x σ H1 fun σ2 H2=>tt σ2 H2 fun b H3=>
  if b=true then te σ2 H3 fun y H4=>H4 a=some (.lst ys)/\ys.length<sizeLine/\∃m',m'<m/\W (i+1) m' σ2 (ys++[y]) (upd H4 a (.lst (ys++[y]))) else ∃m',m'<m/\W (i+1) m' σ2 ys H3))
def tComp (js:List Nat) (wi:TI) (g:TG) (tt:TT) (te:TE):TE:=fun σ H Q=>wi σ H fun J H1=>∀a,H1 a=none->∃W,(∃m,W 0 m (a4n js σ) [] (upd H1 a (.lst [])))/\CompW J g tt te a Q W
section
variable {X:Cx} {scope:Scope} {vars:List Str} {js:List Nat} {elt tg iter:Expr} {ifs:List Expr} {pos:Pos} {wi:TI} {g:TG} {tt:TT} {te:TE}
theorem b13 {pins:List (Addr×Obj)} {s:Shared} {σ:St} {H:Hp} {it:Addr} {fp:List Addr} {tn:Nat->Heap->Prop} {J:It} {Q:VK} {E:Value->Shared->Prop} {RR:Value->Addr->Result->Shared->Prop} (hc:a2x scope X.env.scope vars=true) (hj:a5V X.N vars js=true) (hcalm:X.calm=true)
  (hg:∀fp s H C,PG (a21 X scope fp s H C) tg g) (ht:∀fp s H C,PIf (a21 X scope fp s H C) ifs tt) (he:∀fp s H C,PE (a21 X scope fp s H C) elt te)
  (I:Inv X pins σ H s) (T:Turn X.prog X.w X.K tg J fp it tn) (st:tn 0 s.heap) (hfp:∀b∈fp,FpOk X pins H b) (q:∀a,H a=none->∃W,(∃m,W 0 m (a4n js σ) [] (upd H a (.lst [])))/\CompW J g tt te a Q W)
  (fin:∀a C H' s' m,Inv X pins σ H' s'->s'.heap.Ns C m->H' C=none->C≠X.env.locals->X.s₀.heap.objs.size<=C->(∀x c,X.env.cells.lookup x=some c->c≠C)->(∀p∈X.pn++pins,p.1≠C)->Q (.ref a) H'->RR (.ref a) C (.ok .next) s'):
  wpAny (model X.prog X.w) X.A (newList []) (fun acc s₃=>wpAny (model X.prog X.w) X.A (newFunctionEnv scope X.env.globals (clOf scope X.env) [] X.env.qual none .none (some X.env)) (fun cenv s₄=>
   codeAny (model X.prog X.w) X.A (.compStart (.ListComp elt [⟨tg,iter,ifs,0⟩] scope pos) 0 (.ref it) acc { cenv with scope:=relabel scope X.env }) (RR acc cenv.locals) s₄) E s₃) E s:=by
 have nocell:∀y∈scope.names,y.2≠.cell:=fun y hy=>(a8g hc y hy).2.2.1
 refine wpAny_newObj_type (wpAny_newFunctionEnv nocell (by intro y hy;simp at hy) (fun h₁ hns hsb=>?_) (a7C hc))
 dsimp only at hns hsb ⊢
 generalize hA:s.heap.objs.size=a at *
 have fa:H a=none:=by rw [←hA];exact I.fresh
 obtain ⟨W,⟨m0,w0⟩,hW⟩:=q a fa
 have I3:Inv X pins σ (upd H a (.lst [])) { s with heap:=s.heap.push { cls:=.type "list",data:=.seq ([]:List Value).toArray } }:=by
  rw [←hA]
  exact I.lnew (t':=s.toks) (ys:=[]) (its:=[]) .nil (zero_le _)
 generalize hB:s.heap.push { cls:=.type "list",dict:=none,data:=.seq ([]:List Value).toArray }=hp at *
 have szp:hp.objs.size=a+1:=by rw [←hB,size_push,hA]
 have keep:∀b o,hp.get? b=some o->h₁.get? b=some o:=fun b o e=>(hsb.2 b (ne_of_lt (lt_size e))).trans (get?_push_of_some _ e)
 have up:∀b o,s.heap.get? b=some o->hp.get? b=some o:=fun b o e=>by rw [←hB];exact get?_push_of_some _ e
 have lo:∀b∈fp,b<a:=fun b hb=>by
  obtain ⟨o,e,_⟩:=T.obj 0 _ st b hb
  rw [←hA]
  exact lt_size e
 have hfp3:∀b∈fp,FpOk X pins (upd H a (.lst [])) b:=fun b hb=>⟨by rw [a0J (ne_of_lt (lo b hb))];exact (hfp b hb).1,(hfp b hb).2⟩
 have I4:=inv_comp (tk:=s.toks+([]:List (Str×Value)).length) I3 hc hj rfl hfp3 (fun b hb=>by show b<hp.objs.size;rw [szp];exact lt_succ_of_lt (lo b hb)) hns keep
 generalize hX:a21 X scope fp { s with heap:=hp } (upd H a (.lst [])) hp.objs.size=X' at I4
 have eP:X'.prog=X.prog:=by rw [←hX];rfl
 have eW:X'.w=X.w:=by rw [←hX];rfl
 have eK:X'.K=X.K:=by rw [←hX];rfl
 have eA:X'.A=X.A:=by rw [←hX];rfl
 have eC:X'.calm=true:=by rw [←hX];exact hcalm
 have eL:X'.env.locals=hp.objs.size:=by rw [←hX];rfl
 have eE:X'.env=compEnvC scope (clOf scope X.env) hp.objs.size X.env:=by rw [←hX];rfl
 have eX:X'.ex=fp:=by rw [←hX];rfl
 have exe:X'.xe=Fl:=by rw [←hX];rfl
 have epn:X'.pn=[]:=by rw [←hX];rfl
 have hg':PG X' tg g:=by rw [←hX];exact hg _ _ _ _
 have ht':PIf X' ifs tt:=by rw [←hX];exact ht _ _ _ _
 have he':PE X' elt te:=by rw [←hX];exact he _ _ _ _
 have stat:∀{H':Hp},(∀b∈fp,H' b=none)->∀b∈fp,FpOk X' [] H' b:=fun hn b hb=>by
  have hb':b∈X'.ex:=by rw [eX];exact hb
  exact ⟨hn b hb,(I4.ok.exf b hb').1,I4.ok.exfs b hb',.inl hb',(I4.ok.exf b hb').2,fun p hp=>by rw [epn] at hp;cases hp⟩
 have back:∀{σ':St} {H':Hp} {s':Shared},Inv X' [] σ' H' s'->Q (.ref a) H'->RR (.ref a) hp.objs.size (.ok .next) s':=fun {σ' H' s'} J qf=>by
  obtain ⟨m,hn,_⟩:=J.loc
  rw [eL] at hn
  have hfree:=J.free
  rw [eL] at hfree
  have jos:=J.os
  have jbase:=J.base
  have jhok:=J.hok
  rw [←hX] at jos jbase jhok
  refine fin a _ H' s' m (I3.call' (ch:=fp) jos jbase jhok J.bare fun b hb=>⟨(hfp b hb).2.2.2.1,(hfp b hb).2.1,(hfp b hb).2.2.2.2.1,(hfp b hb).2.2.2.2.2⟩) hn hfree (ne_of_gt I3.lt) I3.sz (fun x c e z=>?_) (fun p hp' z=>?_) qf
  ·obtain ⟨v,o,ho,_⟩:=I3.cell x c e
   have:=lt_size ho
   rw [z] at this
   exact lt_irrefl _ this
  ·have:=lt_size (I3.pin p hp').1
   rw [z] at this
   exact lt_irrefl _ this
 have st1:tn 0 h₁:=T.keep 0 _ _ st fun b hb o e=>keep b o (up b o e)
 have loop:codeAny (model X.prog X.w) X.A (.compLoop (.ListComp elt [⟨tg,iter,ifs,0⟩] scope pos) 0 (.ref it) (.ref a) X'.env) (RR (.ref a) hp.objs.size) { s with heap:=h₁,toks:=s.toks+([]:List (Str×Value)).length }:=by
  refine b7j (fun n s'=>∃i σ' ys H',Inv X' [] σ' H' s'/\tn i s'.heap/\(∀b∈fp,H' b=none)/\W i n σ' ys H') ?_ m0 ⟨0,_,[],_,I4,st1,fun b hb=>(hfp3 b hb).1,w0⟩
  rintro n s3 ⟨i,σ3,ys,H3,J3,st3,fr3,w3⟩
  obtain ⟨ha,hw⟩:=hW i n σ3 ys H3 w3
  rcases hw with ⟨stop,qn⟩|⟨go,step⟩
  ·have z:=T.done X' eP eW eK eC i [] s3 σ3 H3 Fl J3 (stat fr3) st3 stop
   rw [eA] at z
   refine thn z fun r s4 ⟨hr,J4⟩=>?_
   subst hr
   exact back J4 qn
  ·have z:=T.item X' eP eW eK eC i [] s3 σ3 H3 Fl J3 (stat fr3) st3 go
   rw [eA] at z
   refine thn z fun r s4 ⟨u,hr,h4⟩=>?_
   subst hr
   refine thn h4 fun _ s5 ⟨x,H5,J5,r5,y5,st5,fr5⟩=>?_
   have J5':=J5.pinned (stat fr5) (T.obj _ _ st5)
   have z5:=hg' _ s5 σ3 H5 x u _ J5' r5 (step x H5 y5)
   rw [eP,eW,eA,exe] at z5
   refine thn z5 fun _ s6 ⟨σ6,H6,J6,q6⟩=>?_
   have z6:=ht' _ s6 σ6 H6 _ J6 q6
   rw [eP,eW,eA,exe] at z6
   refine thn z6 fun ok s7 ⟨H7,J7,q7⟩=>?_
   have again:∀{σ8:St} {H8:Hp} {s8:Shared} {ys8:List V} {m':Nat},Inv X' ([]++b1i fp s5.heap) σ8 H8 s8->m'<n->W (i+1) m' σ8 ys8 H8->∃m,m<n/\∃i σ' ys H',Inv X' [] σ' H' s8/\tn i s8.heap/\(∀b∈fp,H' b=none)/\W i m σ' ys H':=fun {σ8 H8 s8 ys8 m'} J8 hm w8=>by
    refine ⟨m',hm,i+1,σ8,ys8,H8,J8.unpinned,T.keep _ _ _ st5 fun b hb o e=>(J8.pin (b,o) (mem_append_right _ (mem_append_right _ (a5B hb e)))).1,fun b hb=>?_,w8⟩
    obtain ⟨o,e,d⟩:=T.obj _ _ st5 b hb
    exact (J8.pin (b,o) (mem_append_right _ (mem_append_right _ (a5B hb e)))).2.1
   cases ok with
   | false=>
    rw [if_neg Bool.false_ne_true] at q7 ⊢
    obtain ⟨m',hm,w7⟩:=q7
    exact again J7 hm w7
   | true=>
    rw [if_pos rfl] at q7 ⊢
    have z7:=he' _ s7 σ6 H7 _ J7 q7
    rw [eP,eW,eA,exe] at z7
    refine thn z7 fun v s8 ⟨y,H8,J8,r8,h8,hl8,m',hm,w8⟩=>?_
    have z8:=b1K _ s8 σ6 H8 (.ref a) [y] (.ref a) [v] (fun _ H9=>H9=upd H8 a (.lst (ys++[y]))) J8 rfl (.cons r8 .nil) ⟨a,ys,y,rfl,rfl,h8,hl8,rfl⟩
    rw [eP,eW,eA,exe] at z8
    refine thn z8 fun _ s9 ⟨_,H9,J9,_,q9⟩=>?_
    subst q9
    exact again J9 hm w8
 rw [eE] at loop
 exact codeAny_compStart_list loop (T.self _ 0 _ _ _ st1 loop)
theorem pe_comp (hc:a2x scope X.env.scope vars=true) (hj:a5V X.N vars js=true) (hcalm:X.calm=true) (hi:PI X tg iter wi)
  (hg:∀fp s H C,PG (a21 X scope fp s H C) tg g) (ht:∀fp s H C,PIf (a21 X scope fp s H C) ifs tt) (he:∀fp s H C,PE (a21 X scope fp s H C) elt te) (hs:∀x,foldedSetIterable iter X.env x=pure x:=by intro _;rfl):
  PE X (.ListComp elt [⟨tg,iter,ifs,0⟩] scope pos) (tComp js wi g tt te):=by
 intro pins s σ H Q I h
 rw [eval_ListComp]
 refine wpAny_comprehension_free (use:=none) rfl hs (a6J (a8f I hc)) (a7C hc) (fun y hy e=>by rw [(a8g hc y hy).1,e]) (thn (hi pins s σ H _ I h) fun v s1 h1=>thn h1 fun itv s2 h2=>?_)
 obtain ⟨it,fp,tn,J,H2,e,I2,T,st2,f2,q⟩:=h2
 subst e
 refine b13 (RR:=fun acc C=>compPost (model X.prog X.w) X.A X.xe none (EP X pins σ Q) acc C) hc hj hcalm hg ht he I2 T st2 f2 q ?_
 intro a C H' s' m J' hn hC hL hS hcell hpin q'
 exact ⟨m,hn,fun h' sb=>⟨.ref a,H',J'.turned (t':=s'.toks) (fun b o hb e=>(sb.2 b hb).trans e) hC hL (.inr hS) hcell hpin,rfl,q'⟩⟩
theorem a8Z {i:Nat} {x:Str} {pos' spos:Pos} (hN:X.N.Nodup) (hi':X.N[i]?=some x) (hx:Loc X.env.scope x) (hc:a2x scope X.env.scope vars=true) (hj:a5V X.N vars js=true) (hcalm:X.calm=true) (hi:PI X tg iter wi)
  (hg:∀fp s H C,PG (a21 X scope fp s H C) tg g) (ht:∀fp s H C,PIf (a21 X scope fp s H C) ifs tt) (he:∀fp s H C,PE (a21 X scope fp s H C) elt te)
  (hsw:swapsWith (.ListComp elt [⟨tg,iter,ifs,0⟩] scope pos) (some (.Name x pos')) spos.line X.env=pure true:=by rfl) (hs:∀x,foldedSetIterable iter X.env x=pure x:=by intro _;rfl)
  (hf:X.fn x=true\/X.env.scope.names.lookup x=some .local:=by first|exact .inl rfl|exact .inr rfl|assumption):
  PS X (.Assign [.Name x pos'] (.ListComp elt [⟨tg,iter,ifs,0⟩] scope pos) spos) (tAsg (tComp js wi g tt te) (b69 i)):=by
 intro pins s σ H D I h
 rw [exec_Assign_Name_used _ _ _ _ hsw]
 refine wpAny_bind (wpAny_standAt (wpAny_bind ?_))
 show wpAny _ X.A (do let _ ←comprehension (.ListComp elt [⟨tg,iter,ifs,0⟩] scope pos) scope X.env _ (newList []) false (eval iter X.env) (some (assign (.Name x pos') X.env))) _ _ s
 refine wpAny_bind (wpAny_mono (wpAny_comprehension_free (use:=some (assign (.Name x pos') X.env)) (Q:=fun _ s'=>SP X pins D .next s') rfl hs (a6J (a8f I hc)) (a7C hc) (fun y hy e=>by rw [(a8g hc y hy).1,e])
  (thn (hi pins s σ H _ I h) fun v s1 h1=>thn h1 fun itv s2 h2=>?_)) (fun _ s' hq=>wpAny_pure (wpAny_pure hq)) fun _ _ e=>e)
 obtain ⟨it,fp,tn,J,H2,e,I2,T,st2,f2,q⟩:=h2
 subst e
 refine b13 (RR:=fun acc C=>compPost (model X.prog X.w) X.A X.xe (some (assign (.Name x pos') X.env)) (fun _ s'=>SP X pins D .next s') acc C) hc hj hcalm hg ht he I2 T st2 f2 q ?_
 intro a C H' s' m J' hn hC hL hS hcell hpin q'
 refine wpAny_assign_Name (b0W J' hN hi' hx (v:=.ref a) rfl (fun s'' J2 ⟨b,sb,hb⟩=>?_) hf)
 have hCb:C≠b:=by
  rcases hb with z|z
  ·rw [z];exact hL
  ·exact (hcell x b z).symm
 exact ⟨m,hn.sameBut sb hCb,fun h' sb'=>⟨_,H',J2.turned (t':=s''.toks) (fun b o hb e=>(sb'.2 b hb).trans e) hC hL (.inr hS) hcell hpin,q'⟩⟩
end
section
variable {X:Cx} {pins:List (Addr×Obj)} {σ:St} {H:Hp} {s:Shared} {l:Addr} {xs:List V}
def rCatR (K:Frag):R2:=fun x y H Q=>∃l b xs zs,x=.ref l/\y=.ref b/\SqL K H l xs/\SqL K H b zs/\xs.length+zs.length<=sizeLine/\∀p,H p=none->Q (.ref p) (upd H p (.lst (xs++zs)))
theorem op_catR:OpR X (binaryOp .Add) (rCatR X.K):=fun pins s σ H x y v u Q I rx ry ⟨l,b,xs,zs,ex,ey,hH,hB,hz,q⟩=>by
 subst ex ey
 cases rx
 cases ry
 obtain ⟨i1,r1,p1,_⟩:=I.list hH
 obtain ⟨i2,r2,p2,_⟩:=I.list hB
 obtain ⟨⟨c1,d1,t1,s1⟩,o1,k1,n1,g1⟩:=p1.isList
 obtain ⟨⟨c2,d2,t2,s2⟩,o2,k2,n2,g2⟩:=p2.isList
 simp only at k1 g1 k2 g2
 subst k1 g1 k2 g2
 have l1:=r1.length
 have l2:=r2.length
 have ea:i1.toArray++i2.toArray=(i1++i2).toArray:=by simp
 refine concat_meets ⟨_,o1,rfl⟩ ⟨_,o2,rfl⟩ noFill_list_add seq_list_add PySem.F.slot_list_add PySem.F.entry_list_add (PySem.F.args_list_add_2 _ _) (list_addW l b _ _ n1 n2 d1 d2 s1 s2 (by rw [size_toArray,size_toArray,←l1,←l2];exact hz)) ⟨o1,o2,?_⟩
 rw [ea]
 exact ⟨.ref _,_,I.lnew (t':=s.toks) (r1.append r2) (by rw [length_append];exact hz),rfl,q _ I.fresh⟩
theorem op_catT0:OpR X (binaryOp .Add) (fun x y H Q=>∃a b ys,x=.ref a/\y=.ref b/\SqT X.K H a []/\SqT X.K H b ys/\Q (.ref b) H):=fun pins s σ H x y v u Q I rx ry ⟨a,b,ys,ex,ey,ha,hb,q⟩=>by
 subst ex ey
 cases rx
 cases ry
 obtain ⟨i1,r1,⟨⟨c1,d1,t1,s1⟩,o1,k1,n1,g1⟩,_⟩:=I.tuple ha
 obtain ⟨i2,r2,⟨⟨c2,d2,t2,s2⟩,o2,k2,n2,g2⟩,_⟩:=I.tuple hb
 cases r1
 simp only at k1 g1 k2 g2
 subst k1 g1 k2 g2
 exact concat_meets ⟨_,o1,rfl⟩ ⟨_,o2,rfl⟩ noFill_tuple_add seq_tuple_add PySem.F.slot_tuple_add PySem.F.entry_tuple_add (PySem.F.args_tuple_add_2 _ _)
  (tuple_addW0 a b _ _ n1 n2 d1 d2 s1 s2 (by rfl)) ⟨o1,o2,⟨.ref b,H,I,rfl,q⟩⟩
theorem a80 (ns:List Int):∀k,k<=ns.length->preSum (fun i=>(ns[i]?).getD 0) k=(ns.take k).sum
 | 0,_=>by simp [preSum]
 | k+1,h=>by
  have hk:k<ns.length:=h
  rw [List.take_add_one,getElem?_eq_getElem hk,List.sum_append,←a80 ns k (le_of_lt hk)]
  simp [preSum,getElem?_eq_getElem hk]
theorem b7n (hc:X.calm=true):a2M X (.builtin "sum") (fun xs H Q=>∃(p:Addr) (ns:List Int),xs=[.ref p]/\SqL X.K H p (ns.map V.int)/\Q (.int ns.sum) H):=fun pins s σ H xs us Q I r ⟨p,ns,ex,hq,q⟩=>by
 subst ex
 obtain ⟨u,rfl,rx⟩:=a6T r
 cases rx
 obtain ⟨its,rv,pl,hz⟩:=I.list hq
 have hlt:p<s.heap.objs.size:=by obtain ⟨_,e,_⟩:=pl.isList;exact lt_size e
 have hlen:its.length=ns.length:=by rw [←rv.length,length_map]
 have up:∀b o,s.heap.get? b=some o->(s.heap.push { cls:=.type "list_iterator",data:=.fields #[.ref p,.int 0 0] }).get? b=some o:=fun b o e=>get?_push_of_some _ e
 refine call_sum_walkG (wpAny_pyIter_list pl.isList ⟨_,_,_,_,_,_,fun i=>(ns[i]?).getD 0,rfl,Walks.list (A:=X.A.in1) (I.ok.hd hc) s.heap.objs.size p (ne_of_lt hlt) its.toArray,⟨⟨_,get?_push_size _ rfl,rfl,rfl⟩,pl.isList.push _⟩,fun b hb=>?_,fun i v hv=>?_,fun h' tk t' hk=>?_⟩)
 ·rw [show ({ s with heap:=s.heap.push { cls:=.type "list_iterator",data:=.fields #[.ref p,.int 0 0] } }:Shared).heap.objs.size=s.heap.objs.size+1 from size_push ..]
  rcases mem_cons.mp hb with e|e
  ·rw [e];exact lt_succ_self _
  ·rw [mem_singleton.mp e];exact lt_succ_of_lt hlt
 ·have hv':its[i]?=some v:=by simpa using hv
  have hi:i<ns.length:=by rw [←hlen];exact (List.getElem?_eq_some_iff.mp hv').1
  obtain ⟨u,e,ru⟩:=rv.get (i:=i) (x:=.int ns[i]) (by rw [getElem?_map,getElem?_eq_getElem hi];rfl)
  rw [hv'] at e
  cases e
  obtain ⟨t,e⟩:=ru
  exact ⟨t,by show v=Value.int ((ns[i]?).getD 0) t;rw [e,getElem?_eq_getElem hi];rfl⟩
 ·have es:preSum (fun i=>(ns[i]?).getD 0) its.toArray.size=ns.sum:=by rw [size_toArray,hlen,a80 ns _ (le_refl _),List.take_length]
  refine ⟨.int ns.sum,H,I.kept (t':=tk) fun b o e=>hk b o (by simpa using ne_of_lt (lt_size e)) (up b o e),⟨t',by rw [es]⟩,q⟩
theorem b7y (bs:List Bool):(List.range bs.length).all (fun i=>(bs[i]?).getD false)=bs.all id:=by
 rw [Bool.eq_iff_iff,all_eq_true,all_eq_true]
 constructor
 ·intro h b hb
  obtain ⟨i,hi,rfl⟩:=List.mem_iff_getElem.mp hb
  have:=h i (mem_range.mpr hi)
  rwa [getElem?_eq_getElem hi] at this
 ·intro h i hi
  have hi':=mem_range.mp hi
  rw [getElem?_eq_getElem hi']
  exact h _ (getElem_mem hi')
theorem b5j (I:Inv X pins σ H s) (hc:X.calm=true) {p:Addr} {bs:List Bool} (hq:SqL X.K H p (bs.map V.bl)) {E:Value->Shared->Prop} {Q:Value->Shared->Prop} {cmb:List Nat->(Nat->Bool)->Bool}
  (k:∀(h':Heap) (tk:Nat),(∀b o,s.heap.get? b=some o->h'.get? b=some o)->Q (.bool (cmb (List.range bs.length) fun i=>(bs[i]?).getD false)) { s with heap:=h',toks:=tk }):
  wpAny (model X.prog X.w) X.A.in1 (pyIter (.ref p)) (fun it s₂=>∃I fp wr n P St tr,it=.ref I/\Walks X.prog X.w X.A.in1 I fp wr n P St/\St 0 s₂.heap/\TruthOf X.prog X.w X.A.in1 P tr/\
   ∀h' tk,(∀b o,b∉wr->s₂.heap.get? b=some o->h'.get? b=some o)->Q (.bool (cmb (List.range n) tr)) { s₂ with heap:=h',toks:=tk }) E s:=by
 obtain ⟨its,rv,pl,hz⟩:=I.list hq
 have hlt:p<s.heap.objs.size:=by obtain ⟨_,e,_⟩:=pl.isList;exact lt_size e
 have hlen:its.length=bs.length:=by rw [←rv.length,length_map]
 refine wpAny_pyIter_list pl.isList ⟨_,_,_,_,_,_,fun i=>(bs[i]?).getD false,rfl,Walks.list (A:=X.A.in1) (I.ok.hd hc) s.heap.objs.size p (ne_of_lt hlt) its.toArray,⟨⟨_,get?_push_size _ rfl,rfl,rfl⟩,pl.isList.push _⟩,fun i v s' Q' E' hv hQ=>?_,fun h' tk hk=>?_⟩
 ·have hv':its[i]?=some v:=by simpa using hv
  have hi:i<bs.length:=by rw [←hlen];exact (List.getElem?_eq_some_iff.mp hv').1
  obtain ⟨u,e,ru⟩:=rv.get (i:=i) (x:=.bl bs[i]) (by rw [getElem?_map,getElem?_eq_getElem hi];rfl)
  rw [hv'] at e
  cases e
  cases (show v=Value.bool bs[i] from ru)
  have hQ2:Q' ((bs[i]?).getD false) s':=hQ
  rw [getElem?_eq_getElem hi] at hQ2
  exact wpAny_pure hQ2
 ·rw [size_toArray,hlen]
  exact k h' tk fun b o e=>hk b o (by simpa using ne_of_lt (lt_size e)) (get?_push_of_some _ e)
theorem b7r (hc:X.calm=true):a2M X (.builtin "all") (fun xs H Q=>∃(p:Addr) (bs:List Bool),xs=[.ref p]/\SqL X.K H p (bs.map V.bl)/\Q (.bl (bs.all id)) H):=fun pins s σ H xs us Q I r ⟨p,bs,ex,hq,q⟩=>by
 subst ex
 obtain ⟨u,rfl,rx⟩:=a6T r
 cases rx
 refine call_all_walk (b5j (cmb:=fun l f=>l.all f) I hc hq fun h' tk hk=>?_)
 exact ⟨.bl (bs.all id),H,I.kept (t':=tk) hk,by rw [b7y];rfl,q⟩
theorem extendTW (l:Addr) (items:Array Value) (n:Nat) (b:Addr) (items2:Array Value) (n2:Nat) (dd:Option Addr) (sl:Array (Option Value)) (h0:¬(!items.isEmpty && Builtin.List.listTooLong (items.size+items2.size))=true) (h1:items.size<=sizeLine) (h2:items.size+items2.size<=sizeLine+1):
  Meets (Builtin.«list.extend» ⟨[.ref l,.ref b],[]⟩) (fun _ R s=>s.heap.get? l=some { cls:=.type "list",dict:=none,data:=.seq items n,slots:=#[] }/\s.heap.get? b=some ⟨.type "tuple",dd,.seq items2 n2,sl⟩/\R (.ok (.ret Value.none)) { s with heap:=s.heap.update l (Obj.mapSeq fun x=>x++items2),toks:=s.toks }):=
 .of_wp fun prog w A R s h=>by
  obtain ⟨hp,g,d,tk,os⟩:=s
  obtain ⟨hl,hb,h⟩:=h
  have f1:=AutoSeq1.idx_int;have f2:=AutoSeq1.sub_tuple_tuple;have f3:=AutoSeq1.sub_list_list;have f4:=AutoSeq1.sub_tuple_list;have f5:=AutoSeq1.sub_list_tuple
  have hz':(items++items2).size<=sizeLine+1:=by rw [Array.size_append];exact h2
  wp_walk using (wpAny_updateSeq hl rfl (hz:=h1) (_hz':=hz')),AutoSeq1.wpAny_loadPart' hl,AutoSeq1.wpAny_loadPart' hb
  exact ⟨_,rfl,h⟩
theorem b4O:MtM X "list.extend" (fun x vs H Q=>∃l b xs zs,x=.ref l/\vs=[.ref b]/\H l=some (.lst xs)/\SqT X.K H b zs/\xs.length+zs.length<=sizeLine/\Q .non (upd H l (.lst (xs++zs)))):=
 fun pins s σ H x vs v us Q I rx rv ⟨l,b,xs,zs,ex,ev,hH,hB,hz,q⟩=>by
 subst ex ev
 cases rx
 obtain ⟨u,rfl,ru⟩:=rv.one
 cases ru
 obtain ⟨z,its,n,r,hl,e⟩:=I.lstM hH
 obtain ⟨i2,r2,⟨⟨c2,d2,t2,s2⟩,o2,k2,n2,g2⟩,_⟩:=I.tuple hB
 simp only at k2 g2
 subst k2 g2
 have hl2:=r2.length
 have hsz:its.toArray.size+i2.toArray.size<=sizeLine:=by rw [size_toArray,size_toArray,←hl,←hl2];exact hz
 refine call_meets F.slot_list_extend ⟨_,e,rfl⟩ F.entry_list_extend (F.args_list_extend_2 _ _) (extendTW l its.toArray n b i2.toArray n2 d2 s2 (by rw [b0c hsz,Bool.and_false];exact Bool.false_ne_true) (by rw [size_toArray,←hl];exact z) (Nat.le_succ_of_le hsz)) ⟨e,o2,?_⟩
 exact ⟨.non,_,I.lset (its':=its++i2) hH e (by simp) (r.append r2) (by rw [length_append];exact hz),rfl,q⟩
theorem extendLW (l:Addr) (items:Array Value) (n:Nat) (b:Addr) (items2:Array Value) (n2:Nat) (dd:Option Addr) (sl:Array (Option Value)) (h0:¬(!items.isEmpty && Builtin.List.listTooLong (items.size+items2.size))=true) (h1:items.size<=sizeLine) (h2:items.size+items2.size<=sizeLine+1):
  Meets (Builtin.«list.extend» ⟨[.ref l,.ref b],[]⟩) (fun _ R s=>s.heap.get? l=some { cls:=.type "list",dict:=none,data:=.seq items n,slots:=#[] }/\s.heap.get? b=some ⟨.type "list",dd,.seq items2 n2,sl⟩/\R (.ok (.ret Value.none)) { s with heap:=s.heap.update l (Obj.mapSeq fun x=>x++items2),toks:=s.toks }):=
 .of_wp fun prog w A R s h=>by
  obtain ⟨hp,g,d,tk,os⟩:=s
  obtain ⟨hl,hb,h⟩:=h
  have f1:=AutoSeq1.idx_int;have f2:=AutoSeq1.sub_tuple_tuple;have f3:=AutoSeq1.sub_list_list;have f4:=AutoSeq1.sub_tuple_list;have f5:=AutoSeq1.sub_list_tuple
  have hz':(items++items2).size<=sizeLine+1:=by rw [Array.size_append];exact h2
  wp_walk using (wpAny_updateSeq hl rfl (hz:=h1) (_hz':=hz')),AutoSeq1.wpAny_loadPart' hl,AutoSeq1.wpAny_loadPart' hb
  exact ⟨_,rfl,h⟩
theorem b4P:MtM X "list.extend" (fun x vs H Q=>∃l b xs zs,x=.ref l/\vs=[.ref b]/\H l=some (.lst xs)/\SqL X.K H b zs/\xs.length+zs.length<=sizeLine/\Q .non (upd H l (.lst (xs++zs)))):=
 fun pins s σ H x vs v us Q I rx rv ⟨l,b,xs,zs,ex,ev,hH,hB,hz,q⟩=>by
 subst ex ev
 cases rx
 obtain ⟨u,rfl,ru⟩:=rv.one
 cases ru
 obtain ⟨z,its,n,r,hl,e⟩:=I.lstM hH
 obtain ⟨i2,r2,p2,_⟩:=I.list hB
 obtain ⟨⟨c2,d2,t2,s2⟩,o2,k2,n2,g2⟩:=p2.isList
 simp only at k2 g2
 subst k2 g2
 have hl2:=r2.length
 have hsz:its.toArray.size+i2.toArray.size<=sizeLine:=by rw [size_toArray,size_toArray,←hl,←hl2];exact hz
 refine call_meets F.slot_list_extend ⟨_,e,rfl⟩ F.entry_list_extend (F.args_list_extend_2 _ _) (extendLW l its.toArray n b i2.toArray n2 d2 s2 (by rw [b0c hsz,Bool.and_false];exact Bool.false_ne_true) (by rw [size_toArray,←hl];exact z) (Nat.le_succ_of_le hsz)) ⟨e,o2,?_⟩
 exact ⟨.non,_,I.lset (its':=its++i2) hH e (by simp) (r.append r2) (by rw [length_append];exact hz),rfl,q⟩
theorem b5v:∀{xs:List V} {us:List Value},xs.length=us.length->(∀(i:Nat) x u,xs[i]?=some x->us[i]?=some u->RelV x u)->Vals xs us
 | [],[],_,_=>.nil
 | x::xs,u::us,hl,h=>.cons (h 0 x u rfl rfl) (b5v (by simpa using hl) fun i x' u' e1 e2=>h (i+1) x' u' (by simpa using e1) (by simpa using e2))
 | [],_::_,hl,_=>by simp at hl
 | _::_,[],hl,_=>by simp at hl
theorem vals_rng {lo:Int} {acc:Array Value} {n:Nat} (h:ItemsOf (fun i v=>∃t,v=.int (lo+i * 1) t) acc n):Vals ((List.range n).map fun k:Nat=>V.int (lo+k)) acc.toList:=by
 refine b5v (by rw [length_map,length_range,←h.1,length_toList]) fun i x u e1 e2=>?_
 obtain ⟨t,rfl⟩:=h.2 i u (by rw [←getElem?_toList];exact e2)
 rw [getElem?_map] at e1
 cases q:(List.range n)[i]? with
 | none=>rw [q] at e1;cases e1
 | some k=>
  rw [q] at e1
  cases e1
  have hk:i<n:=by
   have:=(List.getElem?_eq_some_iff.mp q).1
   rwa [length_range] at this
  rw [getElem?_range hk] at q
  cases q
  exact ⟨t,by rw [Int.mul_one]⟩
theorem b3i:a2M X (.type "range") (fun xs H Q=>∃lo hi,xs=[.int lo,.int hi]/\∀p,H p=none->Q (.ref p) (upd H p (.rng lo hi))):=fun pins s σ H xs us Q I r ⟨lo,hi,ex,q⟩=>by
 subst ex
 obtain ⟨u,w,rfl,⟨t,rfl⟩,⟨t',rfl⟩⟩:=vals2 r
 refine call_range_2 ⟨.ref s.heap.objs.size,_,I.laid (t':=s.toks+1) (o:=.rng lo hi) (fun b o e=>get?_push_of_some _ e) (le_refl _) ⟨_,_,_,get?_push_size _ rfl⟩,rfl,q _ I.fresh⟩
theorem b16 (hc:X.calm=true):a2M X (.type "list") (fun xs H Q=>∃p lo hi,xs=[.ref p]/\H p=some (.rng lo hi)/\(-(2 ^ 62)<=lo/\lo<2 ^ 62/\-(2 ^ 62)<=hi/\hi<2 ^ 62)/\(hi - lo).toNat<=sizeLine/\
  ∀l,H l=none->Q (.ref l) (upd H l (.lst ((List.range (hi - lo).toNat).map fun k:Nat=>V.int (lo+k))))):=fun pins s σ H xs us Q I r ⟨p,lo,hi,ex,hp,⟨b1,b2,b3,b4⟩,hz,q⟩=>by
 subst ex
 obtain ⟨u,rfl,ru⟩:=a6T r
 cases ru
 obtain ⟨t,u,v,e⟩:=I.hok p _ hp
 refine call_list_range (n:=(hi - lo).toNat) (I.ok.hd hc) (show IsRange s.heap p lo hi 1 t u v from e) (small_one b1 b2 b3 b4) (by rw [rangeSize_one];split <;> omega) hz fun h' tk acc c kp e' it=>?_
 exact ⟨.ref s.heap.objs.size,_,I.laid (t':=tk) (o:=.lst ((List.range (hi - lo).toNat).map fun k:Nat=>V.int (lo+k))) kp (le_refl _) ⟨by rw [length_map,length_range];exact hz,acc.toList,c,vals_rng it,by simpa using e'⟩,rfl,q _ I.fresh⟩
theorem b42 {x:V} {u:Value} {t:String} {T:String} {b:Bool} (I:Inv X pins σ H s) (rx:RelV x u) (ty:TyOf X.K H x (.type t)\/(t = "tuple" /\ ∃a xs,x=.ref a/\SqT X.K H a xs)\/(t = "list" /\ ∃a xs,x=.ref a/\SqL X.K H a xs)) (e:kitOne X.K (.type t) (.type T)=some b) {Q:Value->Shared->Prop} {E:Value->Shared->Prop} {A:Around}
  (h:∀tk,Q (.bool b) { s with toks:=tk }):wpAny (model X.prog X.w) A (call (.builtin "isinstance") [u,.type T]) Q E s:=by
 rcases ty with ty|⟨rfl,a,xs,rfl,hq⟩|⟨rfl,a,xs,rfl,hq⟩
 ·exact b6W I rx ty e h
 ·cases (show u=Value.ref a from rx)
  obtain ⟨its,_,⟨o,h1,h2,_⟩,_⟩:=I.tuple hq
  exact kia_one PySem.W.kitx_tuple I.kIn ⟨o,h1,h2⟩ e (fun z=>nomatch z) h
 ·cases (show u=Value.ref a from rx)
  obtain ⟨its,_,pl,_⟩:=I.list hq
  obtain ⟨o,h1,h2,_⟩:=pl.isList
  exact kia_one kitx_list I.kIn ⟨o,h1,h2⟩ e (fun z=>nomatch z) h
theorem b3j:a2M X (.builtin "isinstance") (fun xs H Q=>∃x t T b,xs=[x,.ty T]/\(TyOf X.K H x (.type t)\/(t = "tuple" /\ ∃a xs,x=.ref a/\SqT X.K H a xs)\/(t = "list" /\ ∃a xs,x=.ref a/\SqL X.K H a xs))/\kitOne X.K (.type t) (.type T)=some b/\Q (.bl b) H):=fun pins s σ H xs us Q I r ⟨x,t,T,b,ex,ty,e,q⟩=>by
 subst ex
 obtain ⟨u,w,rfl,ru,rw'⟩:=vals2 r
 cases (show w=Value.type T from rw')
 exact b42 I ru ty e fun tk=>⟨.bl b,H,I.tok tk,rfl,q⟩
end
section
variable {prog:Program} {w:World} {A:Around} {E:Value->Shared->Prop} {s:Shared}
end
structure Nx (prog:Program) (w:World) (A:Around) (it l:Addr) (st:Nat->Heap->Prop) (val:Nat->Option Value):Prop where
 item:∀(s:Shared) (k:Nat) (x:Value) (Q:Value->Shared->Prop) (E:Value->Shared->Prop),st k s.heap->val k=some x->(∀h',st (k+1) h'->Heap.SameBut it s.heap h'->Q x { s with heap:=h' })->wpAny (model prog w) A (Builtin.SmallTypes.nextOf (.ref it)) Q E s
 stop:∀(s:Shared) (k:Nat) (Q:Value->Shared->Prop) (E:Value->Shared->Prop),st k s.heap->val k=none->
  (∀h' e,Heap.ExtBut it s.heap h'->(∃o,h'.get? e=some o/\o.cls=.type "StopIteration")->E (.ref e) { s with heap:=h' })->wpAny (model prog w) A (Builtin.SmallTypes.nextOf (.ref it)) Q E s
 ext:∀(k:Nat) (h h':Heap),st k h->(∀b,b=it\/b=l->∀o,h.get? b=some o->h'.get? b=some o)->st k h'
 there:∀(k:Nat) (h:Heap),st k h->(∃o,h.get? it=some o/\∀v,o.data≠.cell v)/\∃o,h.get? l=some o
section
variable {prog:Program} {w:World} {A:Around} {E:Value->Shared->Prop} {s:Shared} {z TI TO i1 i2 l1 l2:Addr} {k:Nat} {st1 st2:Nat->Heap->Prop} {v1 v2:Nat->Option Value} {a b:Value}
end
section
variable {X:Cx} {pins:List (Addr×Obj)} {σ:St} {H:Hp} {s:Shared} {h':Heap}
end
def SqX (K:Frag) (H:Hp):Bool->Addr->List V->Prop
 | true,a,xs=>SqL K H a xs
 | false,a,xs=>SqT K H a xs
def itX (h:Heap):Bool->Addr->Addr->Nat->Prop
 | true,it,l,k=>h.IsListIter it l k
 | false,it,l,k=>h.IsTupleIter it l k
def isX (h:Heap):Bool->Addr->Array Value->Prop
 | true,l,its=>h.IsList l its
 | false,l,its=>h.IsTuple l its
def Itz (K:Frag) (b1:Bool) (l1:Addr) (b2:Bool) (l2:Addr):It:=
 ⟨fun i H=>∃xs ys x y,SqX K H b1 l1 xs/\SqX K H b2 l2 ys/\xs[i]?=some x/\ys[i]?=some y,
  fun i H x H'=>∃p u v,x=.ref p/\H p=none/\H'=upd H p (.tup [u,v])/\(∀xs,SqX K H b1 l1 xs->xs[i]?=some u)/\∀ys,SqX K H b2 l2 ys->ys[i]?=some v,
  fun i H=>∃xs ys,SqX K H b1 l1 xs/\SqX K H b2 l2 ys/\(xs.length<=i\/ys.length<=i)⟩
abbrev zt1 (h:Heap) (l1:Addr):Heap:=h.push { cls:=.type "tuple_iterator",data:=.fields #[.ref l1,.int 0 0] }
abbrev zt2 (h:Heap) (l1 l2:Addr):Heap:=(zt1 h l1).push { cls:=.type "tuple_iterator",data:=.fields #[.ref l2,.int 0 0] }
abbrev zt3 (h:Heap) (l1 l2:Addr):Heap:=(zt2 h l1 l2).push { cls:=.type "tuple",data:=.seq #[.ref h.objs.size,.ref (zt1 h l1).objs.size] }
abbrev zt4 (h:Heap) (l1 l2:Addr):Heap:=(zt3 h l1 l2).push { cls:=.type "tuple",data:=.seq #[.none,.none] }
abbrev zt5 (h:Heap) (l1 l2:Addr):Heap:=(zt4 h l1 l2).push { cls:=.type "zip",data:=.fields #[.none,.bool false,.bool false,.ref (zt2 h l1 l2).objs.size,.ref (zt3 h l1 l2).objs.size] }
section
variable {prog:Program} {w:World} {A:Around} {E:Value->Shared->Prop} {s:Shared}
end
section
variable {X:Cx}
def iZipX (K:Frag) (ta:TA):TI:=fun σ H R=>ta σ H fun vs H1=>∃b l1 l2,vs=[.ref l1,.ref l2]/\(∃xs,SqX K H1 b l1 xs)/\(∃ys,SqX K H1 b l2 ys)/\R (Itz K b l1 b l2) H1
end
def Ite (K:Frag) (b:Bool) (l:Addr):It:=
 ⟨fun i H=>∃xs x,SqX K H b l xs/\xs[i]?=some x,
  fun i H x H'=>∃p u,x=.ref p/\H p=none/\H'=upd H p (.tup [.int i,u])/\∀xs,SqX K H b l xs->xs[i]?=some u,
  fun i H=>∃xs,SqX K H b l xs/\xs.length<=i⟩
abbrev et1 (h:Heap) (l:Addr):Heap:=h.push { cls:=.type "tuple_iterator",data:=.fields #[.ref l,.int 0 0] }
abbrev et2 (h:Heap) (l:Addr):Heap:=(et1 h l).push { cls:=.type "enumerate",data:=.fields #[.none,.bool false,.ref h.objs.size,rawInt 0,.none,.none] }
section
variable {prog:Program} {w:World} {A:Around} {E:Value->Shared->Prop} {s:Shared}
end
section
variable {X:Cx}
def iEnumX (K:Frag) (ta:TA):TI:=fun σ H R=>ta σ H fun vs H1=>∃b l,vs=[.ref l]/\(∃xs,SqX K H1 b l xs)/\R (Ite K b l) H1
end
end L2
namespace L2
open PySem
abbrev Rise (xs:Array Nat):Prop:=xs.toList.Pairwise (· < ·)
theorem a9Z {xs:Array Nat} (h:Rise xs) {i k:Nat} (hik:i<k) (hk:k<xs.size):xs[i]'(by omega)<xs[k]:=by
 have:=List.pairwise_iff_getElem.mp h i k (by simpa using (by omega:i<xs.size)) (by simpa using hk) hik
 simpa using this
theorem b0B {xs:Array Nat} (h:Rise xs) (j:Nat):∀(fuel lo hi:Nat),lo<=hi->hi<=xs.size->hi - lo<=fuel->(∀i (hi':i<xs.size),i<lo->xs[i]<j)->(∀i (hi':i<xs.size),hi<=i->j<=xs[i])->
  SetTable.below.go xs j fuel lo hi<=xs.size/\(∀i (hi':i<xs.size),i<SetTable.below.go xs j fuel lo hi->xs[i]<j)/\∀i (hi':i<xs.size),SetTable.below.go xs j fuel lo hi<=i->j<=xs[i]
 | 0,lo,hi,h1,h2,h3,h4,h5=>by
  have e:lo=hi:=by omega
  subst e
  exact ⟨h2,h4,h5⟩
 | fuel+1,lo,hi,h1,h2,h3,h4,h5=>by
  unfold SetTable.below.go
  by_cases hl:lo<hi
  ·rw [if_pos hl]
   have hm:(lo+hi) / 2<xs.size:=by omega
   have hg:xs.getD ((lo+hi) / 2) j=xs[(lo+hi) / 2]:=by simp [hm]
   dsimp only
   rw [hg]
   by_cases hc:xs[(lo+hi) / 2]<j
   ·rw [if_pos hc]
    refine b0B h j fuel _ _ (by omega) h2 (by omega) (fun i hi' hlt=>?_) h5
    by_cases e:i=(lo+hi) / 2
    ·subst e;exact hc
    ·exact lt_trans (a9Z h (by omega) hm) hc
   ·rw [if_neg hc]
    refine b0B h j fuel _ _ (by omega) (by omega) (by omega) h4 (fun i hi' hle=>?_)
    by_cases e:i=(lo+hi) / 2
    ·subst e;omega
    ·have:=a9Z h (show (lo+hi) / 2<i by omega) hi';omega
  ·rw [if_neg hl]
   have e:lo=hi:=by omega
   subst e
   exact ⟨h2,h4,h5⟩
theorem a5H {xs:Array Nat} (h:Rise xs) (j:Nat):SetTable.below xs j<=xs.size/\(∀i (hi':i<xs.size),i<SetTable.below xs j->xs[i]<j)/\∀i (hi':i<xs.size),SetTable.below xs j<=i->j<=xs[i]:=by
 unfold SetTable.below
 exact b0B h j xs.size 0 xs.size (zero_le _) (le_refl _) (by omega) (fun _ _ z=>absurd z (Nat.not_lt_zero _)) (fun i hi' z=>absurd hi' (by omega))
theorem b5l {xs:Array Nat} (h:Rise xs):SetTable.below xs 0=0:=by
 obtain ⟨h1,h2,_⟩:=a5H h 0
 by_cases e:SetTable.below xs 0=0
 ·exact e
 ·have:=h2 0 (by omega) (by omega)
  omega
theorem b5m {xs:Array Nat} (h:Rise xs) {i:Nat} (hi:i<xs.size):SetTable.below xs (xs[i]+1)=i+1:=by
 obtain ⟨h1,h2,h3⟩:=a5H h (xs[i]+1)
 by_cases l:SetTable.below xs (xs[i]+1)<=i
 ·have:=h3 i hi l;omega
 ·by_cases e:SetTable.below xs (xs[i]+1)=i+1
  ·exact e
  ·have hi1:i+1<xs.size:=by omega
   have a:=h2 (i+1) hi1 (by omega)
   have b:=a9Z h (i:=i) (k:=i+1) (by omega) hi1
   omega
theorem a6B {α:Type} (xs:Array α) (p:Nat) (x:α) (hp:p<=xs.size):(SetTable.insertAt xs p x).toList=xs.toList.take p++x::xs.toList.drop p:=by
 unfold SetTable.insertAt
 simp [Array.toList_extract]
 rw [List.take_of_length_le (by simp)]
theorem a4L {α:Type} (xs:Array α) (p:Nat) (x:α) (hp:p<=xs.size):(SetTable.insertAt xs p x).toList.Perm (x::xs.toList):=by
 rw [a6B xs p x hp]
 refine List.perm_middle.trans ?_
 rw [List.take_append_drop]
theorem a6A {α:Type} (xs:Array α) (p:Nat) (x:α) (hp:p<=xs.size):(SetTable.insertAt xs p x).size=xs.size+1:=by
 rw [←length_toList,(a4L xs p x hp).length_eq];simp
structure Tb (t:SetTable) (m:Nat):Prop where
 mask:t.mask=7
 dum:t.dummies=#[]
 plain:t.plain=true
 size:t.place.size=m
 rise:Rise t.place
 le:∀j∈t.place.toList,j<=7
theorem Tb.fits {t:SetTable} {m:Nat} (T:Tb t m) (hm:m<=7):t.fits m=true:=by
 unfold SetTable.fits SetTable.fill
 rw [T.size,T.dum,T.mask]
 simp
 omega
theorem Tb.notFull {t:SetTable} {m:Nat} (T:Tb t m) (hm:m<=4):t.tooFull=false:=by
 unfold SetTable.tooFull SetTable.fill
 rw [T.size,T.dum,T.mask]
 simp
 omega
theorem Tb.slot {t:SetTable} {m:Nat} (T:Tb t m) (j:Nat):(t.slot j=.empty/\j∉t.place.toList)\/(∃i,t.slot j=.live i)/\j∈t.place.toList:=by
 unfold SetTable.slot
 dsimp only
 by_cases h:(t.place[SetTable.below t.place j]? == some j)=true
 ·rw [if_pos h]
  have e:t.place[SetTable.below t.place j]?=some j:=eq_of_beq h
  rw [←getElem?_toList] at e
  exact .inr ⟨⟨_,rfl⟩,mem_of_getElem? e⟩
 ·rw [if_neg h]
  have hd:SetTable.has t.dummies j=false:=by rw [T.dum];rfl
  rw [if_neg (by rw [hd];exact Bool.false_ne_true)]
  refine .inl ⟨rfl,fun hm=>h ?_⟩
  obtain ⟨i,hi,e⟩:=List.getElem_of_mem hm
  have hi':i<t.place.size:=by simpa using hi
  have e':t.place[i]=j:=by simpa using e
  obtain ⟨h1,h2,h3⟩:=a5H T.rise j
  have hb:SetTable.below t.place j=i:=by
   by_cases l:SetTable.below t.place j<=i
   ·by_cases l2:SetTable.below t.place j=i
    ·exact l2
    ·have hlt:SetTable.below t.place j<t.place.size:=by omega
     have a:=h3 _ hlt (le_refl _)
     have b:=a9Z T.rise (show SetTable.below t.place j<i by omega) hi'
     omega
   ·have:=h2 i hi' (by omega);omega
  rw [hb,Array.getElem?_eq_getElem hi',e']
  exact beq_self_eq_true _
theorem b5k {h:Int} (h0:0<=h) (h1:h<32):SetTable.bits h=h.toNat:=by
 unfold SetTable.bits
 rw [Int.emod_eq_of_lt h0 (by omega)]
theorem four_in {l:List Nat} {a b c d:Nat} (hl:l.length<=3) (h1:a∈l) (h2:b∈l) (h3:c∈l) (h4:d∈l) (n:[a,b,c,d].Nodup):False:=by
 have hs:[a,b,c,d] ⊆ l:=by
  intro x hx
  simp at hx
  rcases hx with rfl|rfl|rfl|rfl <;> assumption
 have:=List.Nodup.length_le_of_subset n hs
 simp at this
 omega
theorem Tb.free {t:SetTable} {m:Nat} (T:Tb t m) (hm:m<=3) {h:Int} (h0:0<=h) (h1:h<32):∃j,t.freeSlot h=some (j,false)/\j<=7/\j∉t.place.toList:=by
 obtain ⟨n,rfl⟩:∃n:Nat,h=n:=⟨h.toNat,by omega⟩
 have hb:SetTable.bits (n:Int)=n:=by rw [b5k h0 h1];rfl
 have hn:n<32:=by omega
 have hl:t.place.toList.length<=3:=by rw [length_toList,T.size];exact hm
 have run:∀(i:Nat),SetTable.runEnd t.mask i=i\/7<i:=fun i=>by
  unfold SetTable.runEnd
  rw [T.mask]
  by_cases q:i+9<=7
  ·omega
  ·rw [if_neg q];exact .inl rfl
 have hrun:∀i,SetTable.runEnd t.mask i - i=0:=fun i=>by
  unfold SetTable.runEnd
  rw [T.mask,if_neg (by omega)]
  omega
 have adv:∀(i p:Nat),p / 32=0->t.advance ⟨i,0,i,p,none⟩=⟨(i * 5+1) % 8,0,(i * 5+1) % 8,0,none⟩:=fun i p hp=>by
  unfold SetTable.advance SetTable.leap
  rw [if_neg (lt_irrefl 0)]
  dsimp only
  rw [hp,hrun,T.mask]
 have step:∀(fuel i p:Nat),p / 32=0->(∃r,SetTable.probe.go t (fun _=>(n:Int)+1) n (fuel+1) ⟨i,0,i,p,none⟩=some r/\r=.empty i none/\i∉t.place.toList)\/(i∈t.place.toList/\SetTable.probe.go t (fun _=>(n:Int)+1) n (fuel+1) ⟨i,0,i,p,none⟩=SetTable.probe.go t (fun _=>(n:Int)+1) n fuel ⟨(i * 5+1) % 8,0,(i * 5+1) % 8,0,none⟩):=fun fuel i p hp=>by
  rcases T.slot i with ⟨e,ni⟩|⟨⟨k,e⟩,hi⟩
  ·refine .inl ⟨.empty i none,?_,rfl,ni⟩
   unfold SetTable.probe.go
   dsimp only
   rw [e]
  ·refine .inr ⟨hi,?_⟩
   conv=>lhs;unfold SetTable.probe.go
   dsimp only
   rw [e]
   dsimp only
   rw [if_neg (by simp;omega),adv i p hp]
 have hps:t.probeStart (n:Int)=⟨n % 8,0,n % 8,n,none⟩:=by
  unfold SetTable.probeStart
  dsimp only
  rw [hb,hrun,T.mask]
 have fin:∀{j:Nat} {r:SetTable.Met},j<8->SetTable.probe.go t (fun _=>(n:Int)+1) n (10 * SetTable.turns t.mask) ⟨n % 8,0,n % 8,n,none⟩=some r->r=.empty j none->j∉t.place.toList->∃j,t.freeSlot (n:Int)=some (j,false)/\j<=7/\j∉t.place.toList:=fun {j r} hj e er nj=>by
  refine ⟨j,?_,by omega,nj⟩
  unfold SetTable.freeSlot SetTable.probe
  rw [hps,e,er]
  rfl
 have hf:10 * SetTable.turns t.mask=216+1+1+1+1:=by unfold SetTable.turns;rw [T.mask]
 rw [hf] at fin
 have h8:n % 8<8:=Nat.mod_lt _ (by decide)
 rcases step (216+1+1+1) (n % 8) n (by omega) with ⟨r,e,er,nj⟩|⟨i1,e1⟩
 ·exact fin h8 e er nj
 rcases step (216+1+1) ((n % 8 * 5+1) % 8) 0 rfl with ⟨r,e,er,nj⟩|⟨i2,e2⟩
 ·exact fin (by omega) (e1.trans e) er nj
 rcases step (216+1) (((n % 8 * 5+1) % 8 * 5+1) % 8) 0 rfl with ⟨r,e,er,nj⟩|⟨i3,e3⟩
 ·exact fin (by omega) ((e1.trans e2).trans e) er nj
 rcases step 216 ((((n % 8 * 5+1) % 8 * 5+1) % 8 * 5+1) % 8) 0 rfl with ⟨r,e,er,nj⟩|⟨i4,e4⟩
 ·exact fin (by omega) (((e1.trans e2).trans e3).trans e) er nj
 exact (four_in hl i1 i2 i3 i4 (by
  have:n % 8=0\/n % 8=1\/n % 8=2\/n % 8=3\/n % 8=4\/n % 8=5\/n % 8=6\/n % 8=7:=by omega
  rcases this with h|h|h|h|h|h|h|h <;> rw [h] <;> decide)).elim
theorem Tb.put {t:SetTable} {m:Nat} (T:Tb t m) {j:Nat} (hj:j<=7) (nj:j∉t.place.toList):Tb (t.put j).1 (m+1)/\(t.put j).2<=m/\(t.put j).1.led=t.led:=by
 obtain ⟨h1,h2,h3⟩:=a5H T.rise j
 have hd:SetTable.has t.dummies j=false:=by rw [T.dum];rfl
 have hz:SetTable.below t.place j<=m:=by rw [←T.size];exact h1
 unfold SetTable.put
 dsimp only
 rw [if_neg (by rw [hd];exact Bool.false_ne_true)]
 refine ⟨⟨T.mask,T.dum,T.plain,?_,?_,fun k hk=>?_⟩,hz,rfl⟩
 ·show (SetTable.insertAt t.place (SetTable.below t.place j) j).size=_
  rw [a6A _ _ _ h1,T.size]
 ·show (SetTable.insertAt t.place (SetTable.below t.place j) j).toList.Pairwise (· < ·)
  rw [a6B _ _ _ h1]
  refine List.pairwise_append.mpr ⟨List.Pairwise.sublist (List.take_sublist _ _) T.rise,pairwise_cons.mpr ⟨fun k hk=>?_,List.Pairwise.sublist (List.drop_sublist _ _) T.rise⟩,fun a ha b hb=>?_⟩
  ·obtain ⟨i,hi,e⟩:=List.getElem_of_mem hk
   rw [List.getElem_drop] at e
   rw [length_drop,length_toList] at hi
   have a:=h3 (SetTable.below t.place j+i) (by omega) (by omega)
   have e':t.place[SetTable.below t.place j+i]'(by omega)=k:=by simpa using e
   have:k≠j:=fun z=>nj (by rw [←z];exact List.mem_of_mem_drop hk)
   omega
  ·obtain ⟨i,hi,e⟩:=List.getElem_of_mem ha
   rw [List.getElem_take] at e
   rw [length_take,length_toList] at hi
   have a1:=h2 i (by omega) (by omega)
   have e':t.place[i]'(by omega)=a:=by simpa using e
   rcases mem_cons.mp hb with rfl|hb
   ·omega
   ·obtain ⟨i2,hi2,e2⟩:=List.getElem_of_mem hb
    rw [List.getElem_drop] at e2
    rw [length_drop,length_toList] at hi2
    have a2:=h3 (SetTable.below t.place j+i2) (by omega) (by omega)
    have e3:t.place[SetTable.below t.place j+i2]'(by omega)=b:=by simpa using e2
    omega
 ·have hk':k∈(SetTable.insertAt t.place (SetTable.below t.place j) j).toList:=hk
  have:=(a4L _ _ j h1).mem_iff.mp hk'
  rcases mem_cons.mp this with rfl|z
  ·exact hj
  ·exact T.le k z
theorem Tb.lay {t:SetTable} {m:Nat} (T:Tb t m) (hm:m<=3) {h:Int} (h0:0<=h) (h1:h<32) (es:Array (Int×Value)) (he:es.size=m) (x:Value):∃es' t',layNew t es h x=(es',t',false,false)/\Tb t' (m+1)/\t'.led=t.led/\es'.toList.Perm ((h,x)::es.toList)/\es'.size=m+1:=by
 obtain ⟨j,ej,hj,nj⟩:=T.free hm h0 h1
 obtain ⟨T',hp,hled⟩:=T.put hj nj
 have hsz:(SetTable.insertAt es (t.put j).2 (h,x)).size=m+1:=by rw [a6A _ _ _ (by omega),he]
 have hfit:=T'.fits (by omega)
 refine ⟨SetTable.insertAt es (t.put j).2 (h,x),(t.put j).1,?_,T',hled,a4L _ _ _ (by omega),hsz⟩
 unfold layNew
 rw [ej]
 dsimp only
 rw [hsz,hfit]
 unfold SetTable.orStandIn
 rw [hfit]
 rfl
theorem b1j {α:Type} (next:Nat->Nat):∀(fuel k:Nat) (left:List α) (out:Array α),left.length=fuel->(pickOrder.go next fuel k left out).toList.Perm (out.toList++left)
 | 0,k,left,out,h=>by
  have:left=[]:=List.length_eq_zero_iff.mp h
  subst this
  unfold pickOrder.go
  simp
 | fuel+1,k,left,out,h=>by
  unfold pickOrder.go
  have hlt:next k % left.length<left.length:=Nat.mod_lt _ (by omega)
  rw [getElem?_eq_getElem hlt]
  dsimp only
  refine (b1j next fuel (k+1) _ _ (by rw [List.length_eraseIdx_of_lt hlt];omega)).trans ?_
  rw [Array.toList_push,append_assoc]
  refine List.Perm.append_left _ ?_
  have e:left=left.take (next k % left.length)++left[next k % left.length]::left.drop (next k % left.length+1):=by
   rw [←List.drop_eq_getElem_cons hlt,List.take_append_drop]
  rw [List.eraseIdx_eq_take_drop_succ]
  conv=>rhs;rw [e]
  rw [List.singleton_append]
  exact List.perm_middle.symm
theorem a8F {α:Type} (next:Nat->Nat) (xs:Array α):(pickOrder next xs).toList.Perm xs.toList:=by
 have:=b1j next xs.size 0 xs.toList #[] (by simp)
 simpa [pickOrder] using this
end L2
namespace L2
open PySem PySem.Spec PyProof.Rows
inductive EsK:List (Int×Value)->List Int->Prop
 | nil:EsK [] []
 | cons (k:Int) (tk:Tok) {es ks}:EsK es ks->EsK ((hashInt k,.int k tk)::es) (k::ks)
theorem EsK.length {es:List (Int×Value)} {ks:List Int} (h:EsK es ks):es.length=ks.length:=by
 induction h with
 | nil=>rfl
 | cons k tk _ ih=>rw [length_cons,length_cons,ih]
theorem EsK.perm {es es':List (Int×Value)} (p:es'.Perm es):∀{ks:List Int},EsK es ks->∃ks',EsK es' ks'/\ks'.Perm ks:=by
 have q:=p.symm
 clear p
 induction q with
 | nil=>intro ks h;cases h;exact ⟨[],.nil,.refl _⟩
 | cons x _ ih=>
  intro ks h
  cases h with
  | cons k tk t=>obtain ⟨ks',e,p⟩:=ih t;exact ⟨k::ks',.cons k tk e,p.cons k⟩
 | swap x y l=>
  intro ks h
  cases h with
  | cons k tk t=>cases t with
   | cons k2 tk2 t2=>exact ⟨k2::k::_,.cons k2 tk2 (.cons k tk t2),List.Perm.swap _ _ _⟩
 | trans _ _ ih1 ih2=>
  intro ks h
  obtain ⟨k1,e1,p1⟩:=ih1 h
  obtain ⟨k2,e2,p2⟩:=ih2 e1
  exact ⟨k2,e2,p2.trans p1⟩
theorem EsK.elems {prog:Program} {w:World} {es:List (Int×Value)} {ks:List Int} (h:EsK es ks):ElemsOf (intKind prog w) es:=by
 induction h with
 | nil=>intro e he;cases he
 | cons k tk _ ih=>
  intro e he
  rcases mem_cons.mp he with rfl|he
  ·exact ⟨⟨k,by simp [intKind,Value.isInt],rfl⟩,rfl⟩
  ·exact ih e he
theorem EsK.find {es:List (Int×Value)} {ks:List Int} (h:EsK es ks) (k:Int):(es.findIdx? fun e=>Value.isInt k e.2).isSome=decide (k∈ks):=by
 induction h with
 | nil=>rfl
 | cons k' tk _ ih=>
  rw [List.findIdx?_cons]
  by_cases e:k=k'
  ·subst e;simp [Value.isInt]
  ·have:Value.isInt k (Value.int k' tk)=false:=by simp [Value.isInt,Ne.symm e,e]
   simp only [this]
   rw [if_neg Bool.false_ne_true,Option.isSome_map,ih]
   simp [e]
theorem EsK.ints {es:List (Int×Value)} {ks:List Int} (h:EsK es ks):IntsAre (es.map (·.2)) ks:=by
 induction h with
 | nil=>exact .nil
 | cons k tk _ ih=>exact .cons k tk ih
def SetX (w:World) (h:Heap) (a:Addr) (ks:List Int):Prop:=∃o es ep t ks',h.get? a=some o/\o.ExactSet/\o.data=.set es ep t/\EsK es.toList ks'/\ks'.Perm ks/\Tb t es.size/\t.led=!w.params.followText "set-order"
theorem SetX.at {w:World} {h h':Heap} {a:Addr} {ks:List Int} (S:SetX w h a ks) (k:∀o,h.get? a=some o->h'.get? a=some o):SetX w h' a ks:=by
 obtain ⟨o,es,ep,t,ks',ho,r⟩:=S
 exact ⟨o,es,ep,t,ks',k o ho,r⟩
theorem hash_fin:∀n:Fin 32,hashInt ((n.val:Nat):Int)=((n.val:Nat):Int):=by decide +kernel
theorem a86 {k:Int} (h0:0<=k) (h1:k<32):hashInt k=k:=by
 have h:=hash_fin ⟨k.toNat,by omega⟩
 rwa [show (((⟨k.toNat,by omega⟩:Fin 32).val:Nat):Int)=k from Int.toNat_of_nonneg h0] at h
section
variable {prog:Program} {w:World} {A:Around} {E:Value->Shared->Prop} {s:Shared}
theorem setx_add {a:Addr} {ks:List Int} {k:Int} {tk:Tok} {Q:Bool->Shared->Prop} (S:SetX w s.heap a ks) (h0:0<=k) (h1:k<32) (hl:ks.length<=4) (hl2:k∉ks->ks.length<=3)
  (h:∀h' b,Heap.SameBut a s.heap h'->SetX w h' a (if k∈ks then ks else k::ks)->Q b { s with heap:=h',toks:=s.toks+1 }):wpAny (model prog w) A (setAdd a (.int k tk)) Q E s:=by
 obtain ⟨o,es,ep,t,ks',ho,hex,hd,hes,hp,T,hled⟩:=S
 have hsz:es.size=ks.length:=by rw [←length_toList,hes.length,hp.length_eq]
 have hf:=T.fits (by omega)
 have hel:ElemsOf (intKind prog w) es.toList:=hes.elems
 have hkey:(intKind prog w).is k (.int k tk)=true:=by simp [intKind,Value.isInt]
 unfold setAdd
 refine wpAny_holding (wpAny_bind ((intKind prog w).pyHash hkey ?_))
 unfold setAddHashed setAddHashedIn
 refine wpAny_holding (wpAny_bind (wpAny_setState_of ho hd hf ?_))
 dsimp only
 rw [byScan_of (knd:=intKind prog w) rfl (by unfold scanBound;omega) hel,if_pos rfl]
 unfold setAddByScan
 refine wpAny_bind (wpAny_bind (wpAny_rule (wpAny_bind (wpAny_setScan_of (s:={ s with toks:=s.toks+1 }) hkey ho hd hf hel ?_))))
 have hfi:=hes.find k
 have hfi':∀r,es.toList.findIdx? (fun e=>(intKind prog w).is k e.2)=r->r.isSome=decide (k∈ks'):=fun r e=>by rw [←e];exact hfi
 have hmem:k∈ks'↔k∈ks:=hp.mem_iff
 cases hr:es.toList.findIdx? (fun e=>(intKind prog w).is k e.2) with
 | some j=>
  have hk:k∈ks:=hmem.mp (by have:=hfi' _ hr;simpa using this.symm)
  dsimp only
  refine wpAny_pure (wpAny_pure (h s.heap false (Heap.SameBut.refl a s.heap) ?_))
  rw [if_pos hk]
  exact ⟨o,es,ep,t,ks',ho,hex,hd,hes,hp,T,hled⟩
 | none=>
  have hk:k∉ks:=fun z=>by have:=hfi' _ hr;rw [decide_eq_true (hmem.mpr z)] at this;cases this
  have h3:=hl2 hk
  obtain ⟨es',t',el,T',hl',hpm,hsz'⟩:=T.lay (by omega) (h:=hashInt k) (by rw [a86 h0 h1];exact h0) (by rw [a86 h0 h1];exact h1) es rfl (.int k tk)
  have el':layNew t es ((intKind prog w).hash k) (.int k tk)=(es',t',false,false):=el
  dsimp only
  rw [el']
  dsimp only
  refine wpAny_bind ?_
  show wpAny _ _ (pure ()) _ _ _
  refine wpAny_pure ?_
  rw [T'.plain,if_pos rfl,hashByValue_scannable 8 rfl]
  refine wpAny_bind (wpAny_pure ?_)
  rw [if_pos (show plainKind (Value.int k tk)=true from rfl)]
  refine wpAny_bind (wpAny_storeSet_of (s:={ s with toks:=s.toks+1 }) ho hd ?_ (by rw [hsz',sizeLine_eq];omega))
  rw [T'.notFull (by omega)]
  simp only [Bool.not_false,Bool.and_false,false_eq_true,if_false]
  refine wpAny_pure (wpAny_pure (h _ true (Heap.SameBut.update s.heap a (Obj.putSet es' t')) ?_))
  rw [if_neg hk]
  obtain ⟨ks2,e2,p2⟩:=EsK.perm hpm (.cons k tk hes)
  have hg:(s.heap.update a (Obj.putSet es' t')).get? a=some { o with data:=.set es' (ep+1) t' }:=by
   have z:=get?_update_self (Obj.putSet es' t') ho (by rw [putSet_of es' t' hd];rfl)
   rw [putSet_of es' t' hd] at z;exact z
  exact ⟨_,es',ep+1,t',ks2,hg,hex,rfl,e2,p2.trans (hp.cons k),by rw [hsz'];exact T',by rw [hl'];exact hled⟩
end
section
variable {prog:Program} {w:World} {A:Around} {E:Value->Shared->Prop} {s:Shared}
theorem b5W {R:Result->Shared->Prop} {S I l:Addr} {items:Array Value} {ns:List Int} (hh:A.in1.handled=none) (hli:l≠I) (hSI:S≠I) (hSl:S≠l) (hi:IntsAre items.toList ns) (hr:∀n∈ns,0<=n/\n<32) (h4:ns.length<=4):
  ∀(k i:Nat) (s:Shared) (ks:List Int),items.size - i=k->i<=items.size->s.heap.IsListIter I l i->s.heap.IsList l items->SetX w s.heap S ks->ks.length<=i->(∀n,n∈ks↔n∈ns.take i)->ks.Nodup->
   (∀h' tk ks',(∀b o,b≠S->b≠I->s.heap.get? b=some o->h'.get? b=some o)->SetX w h' S ks'->(∀n,n∈ks'↔n∈ns)->ks'.Nodup->R (.ok (.ret .none)) { s with heap:=h',toks:=tk })->
   codeAny (model prog w) A (.builtin "set.update.loop" ⟨[.ref S,.ref I],[]⟩) R s:=by
 have hlen:items.size=ns.length:=by rw [←length_toList];exact hi.length
 have W:=Walks.list (prog:=prog) (w:=w) hh I l hli items
 intro k
 induction k with
 | zero=>
  intro i s ks hk hile st hl S1 hkl hm nd hR
  obtain rfl:i=items.size:=by omega
  refine codeAny_builtin PyProof.Rows.F.entry_set_update_loop ?_
  rw [Around.under_plainId PyProof.Rows.F.plain_set_update_loop _]
  refine wpAny_bind (m:=pyNext (.ref I)) (W.done s _ _ ⟨st,hl⟩ fun h' tk kp=>?_)
  refine wpAny_pure (hR h' tk ks (fun b o _ hb e=>kp b o (by simpa using hb) e) (S1.at fun o e=>kp S o (by simpa using hSI) e) (fun n=>?_) nd)
  rw [hm n,hlen,List.take_length]
 | succ k ih=>
  intro i s ks hk hile st hl S1 hkl hm nd hR
  have hlt:i<items.size:=by omega
  refine codeAny_builtin PyProof.Rows.F.entry_set_update_loop ?_
  rw [Around.under_plainId PyProof.Rows.F.plain_set_update_loop _]
  refine wpAny_bind (m:=pyNext (.ref I)) (W.item i s _ _ hlt ⟨st,hl⟩ fun v h' tk hv st' kp=>?_)
  obtain ⟨t,rfl⟩:=PyProof.Rows.IntsAre.int_at hi i v (by rw [getElem?_toList];exact hv)
  have hmem:ns.getD i 0∈ns:=by rw [getD_eq_getElem?_getD,getElem?_eq_getElem (by omega)];exact getElem_mem _
  have S2:SetX w h' S ks:=S1.at fun o e=>kp S o (by simpa using hSI) e
  obtain ⟨r0,r1⟩:=hr _ hmem
  refine wpAny_bind (m:=holding _ _) (wpAny_holding (setx_add (s:={ s with heap:=h',toks:=tk }) S2 r0 r1 (by omega) (fun _=>by omega) fun h2 b sb S3=>?_))
  refine wpAny_pure ⟨plainId_quiet PyProof.Rows.F.plain_set_update_loop _,ih (i+1) _ _ (by omega) hlt ?_ ?_ S3 ?_ ?_ ?_ fun h3 tk3 ks3 kp3 S4 m4 n4=>?_⟩
  ·exact st'.1.extBut sb.extBut (Ne.symm hSI)
  ·exact st'.2.extBut sb.extBut (Ne.symm hSl)
  ·split
   ·omega
   ·rw [length_cons];omega
  ·intro n
   have htake:ns.take (i+1)=ns.take i++[ns.getD i 0]:=by
    rw [List.take_add_one,getElem?_eq_getElem (by omega),getD_eq_getElem?_getD,getElem?_eq_getElem (by omega)]
    rfl
   rw [htake,mem_append,mem_singleton,←hm n]
   split
   ·rename_i hin
    constructor
    ·exact .inl
    ·rintro (z|rfl)
     ·exact z
     ·exact hin
   ·rw [mem_cons,or_comm]
  ·split
   ·exact nd
   ·rename_i hin;exact nodup_cons.mpr ⟨hin,nd⟩
  ·refine hR h3 tk3 ks3 (fun b o hb1 hb2 e=>kp3 b o hb1 hb2 (sb.extBut b o hb1 (kp b o (by simpa using hb2) e))) S4 m4 n4
theorem setx_new (a:Value) {Q₁:Value->Shared->Prop} (h:Q₁ (.ref s.heap.objs.size) { s with heap:=s.heap.push { cls:=.type "set",dict:=none,data:=.set #[] 0 (.fresh 0 0 (!w.params.followText "set-order")) } }):
  codeAny (model prog w) A (.call (.builtin "set.__new__") ⟨[.type "set",a],[]⟩) (wants Q₁ E) s:=by
 refine codeAny_of_tree (wpAny_bind (m:=checkBuiltinCall "set.__new__" ⟨[.type "set",a],[]⟩) (wpAny_of_eq (PySem.F.newCall_set_1 a) (wpAny_pure ⟨plainId_quiet PySem.F.plain_set_new _,codeAny_builtin PySem.F.entry_set_new ?_⟩)))
 rw [Around.under_plainId PySem.F.plain_set_new _];unfold Builtin.«set.__new__» Builtin.Frozenset.newClass;have hsub:=sub_set_self
 obtain ⟨hp,g,d,tk,os⟩:=s;dsimp only;wp_walk
 refine wpAny_askSetting (wpAny_pure ?_);dsimp only;simp only [newObj]
 exact wpAny_bind (wpAny_alloc (wpAny_pure (wpAny_pure h)))
theorem b4l {h:Heap} {a:Addr} (e:h.get? a=some { cls:=.type "set",dict:=none,data:=.set #[] 0 (.fresh 0 0 (!w.params.followText "set-order")) }):SetX w h a []:=
 ⟨_,#[],0,_,[],e,⟨rfl,rfl,rfl⟩,rfl,.nil,.refl _,⟨rfl,rfl,rfl,rfl,.nil,fun j hj=>by cases hj⟩,rfl⟩
set_option maxHeartbeats 4000000 in
theorem b7o {l:Addr} {items:Array Value} {ns:List Int} {Q:Value->Shared->Prop} (hh:A.handled=none) (hl:s.heap.IsList l items) (hi:IntsAre items.toList ns) (hr:∀n∈ns,0<=n/\n<32) (h4:ns.length<=4)
  (h:∀(h':Heap) (tk:Nat) (ks:List Int),SetX w h' s.heap.objs.size ks->(∀n,n∈ks↔n∈ns)->ks.Nodup->(∀b o,s.heap.get? b=some o->h'.get? b=some o)->Q (.ref s.heap.objs.size) { s with heap:=h',toks:=tk }):
  wpAny (model prog w) A (call (.type "set") [.ref l]) Q E s:=by
 obtain ⟨c,tl,hmro⟩:=PySem.F.called_set.mro;have hmade:=PySem.F.called_set.made;have hsub:=PySem.F.called_set.sub
 refine wpAny_call (codeAny_of_tree ?_);show wpAny _ _ (callAny (.type "set") _) _ _ _
 refine wpAny_pure ⟨Code.quiet_builtin _ (by decide +kernel),codeAny_builtin PySem.F.entry_type_call ?_⟩
 rw [Around.under_plain (weight_type_call_type "set" [.ref l] []) rfl]
 have h1:=PySem.F.called_set.notType;have h2:=PySem.F.called_set.canCreate;have hct:=PySem.F.typeCall_set_1 (.ref l)
 repeat (any_goals (first|assumption|wp_step))
 generalize hO:({ cls:=.type "set",dict:=none,data:=.set #[] 0 (.fresh 0 0 (!w.params.followText "set-order")) }:Obj)=O0
 refine codeAny_mono (setx_new (.ref l) (E:=E) (Q₁:=fun obj s₁=>obj=.ref s.heap.objs.size/\s₁={ s with heap:=s.heap.push O0 }) (by rw [hO];exact ⟨rfl,rfl⟩)) fun r s₁ hr1=>?_
 cases r with
 | error e=>exact hr1
 | ok fl=>cases fl with
  | ret obj=>
   obtain ⟨rfl,rfl⟩:=hr1
   have hS:(s.heap.push O0).get? s.heap.objs.size=some O0:=get?_push_size _ (by rw [←hO];rfl)
   have hT:Shared.TypeIs { s with heap:=s.heap.push O0 } (.ref s.heap.objs.size) "set" := ⟨_,hS,by rw [←hO]⟩
   have hli:=PySem.F.called_set.init.lookup;have hbi:=PySem.F.called_set.init.bind (.ref s.heap.objs.size)
   repeat (any_goals (first|assumption|wp_step))
   refine codeAny_mono (codeAny_call_builtin (R:=wants (fun r s₂=>r=.none/\∃h' tk ks,s₂={ s with heap:=h',toks:=tk }/\SetX w h' s.heap.objs.size ks/\(∀n,n∈ks↔n∈ns)/\ks.Nodup/\∀b o,s.heap.get? b=some o->h'.get? b=some o) E) PySem.F.called_set.init.plain PySem.F.entry_set_init (check_set_init_1 hT ?_)) fun r₂ s₂ hr₂=>?_
   ·obtain ⟨⟨oc,od,odt,osl⟩,hol,hcl,nl,hdl⟩:=hl
    replace hcl:oc=.type "list" := hcl
    replace hdl:odt=.seq items nl:=hdl
    subst hcl hdl
    have hol':(s.heap.push O0).get? l=some _:=get?_push_of_some _ hol
    have hsls:=PySem.F.sub_list_set;have hslf:=PySem.F.sub_list_frozenset;have hne:(Value.type "list" == Value.type "dict")=false:=by decide
    have hl1:(s.heap.push O0).IsList l items:=⟨_,hol',rfl,nl,rfl⟩
    have hlS:l<s.heap.objs.size:=lt_size hol
    have hS0:(s.heap.push O0).get? s.heap.objs.size=some { cls:=.type "set",dict:=none,data:=.set #[] 0 (.fresh 0 0 (!w.params.followText "set-order")) }:=by rw [hO];exact hS
    unfold Builtin.«set.__init__» noKeywords Builtin.Frozenset.updateFrom;generalize hPI:pyIter=PI;subst hO;wp_walk;subst hPI
    refine wpAny_pyIter_list hl1 (wpAny_bind (wpAny_runValue ?_))
    have n1:(s.heap.push { cls:=.type "set",dict:=none,data:=.set #[] 0 (.fresh 0 0 (!w.params.followText "set-order")) }).objs.size=s.heap.objs.size+1:=size_push ..
    have hit:((s.heap.push { cls:=.type "set",dict:=none,data:=.set #[] 0 (.fresh 0 0 (!w.params.followText "set-order")) }).push { cls:=.type "list_iterator",data:=.fields #[.ref l,.int 0 0] }).get? (s.heap.objs.size+1)=some { cls:=.type "list_iterator",data:=.fields #[.ref l,.int 0 0] }:=by rw [←n1];exact get?_push_size _ rfl
    rw [n1]
    refine b5W (I:=s.heap.objs.size+1) (by simp [hh]) (ne_of_lt (lt_succ_of_lt hlS)) (ne_of_lt (lt_succ_self _)) (ne_of_gt hlS) hi hr h4 (items.size - 0) 0 _ [] rfl (zero_le _) ⟨_,hit,rfl,rfl⟩ (hl1.push _) (b4l (get?_push_of_some _ hS0)) (le_refl _) (fun n=>by simp) .nil fun h' tk ks kp S1 m1 nd=>?_
    refine wpAny_pure (wpAny_pure ⟨rfl,h',tk,ks,rfl,S1,m1,nd,fun b o e=>?_⟩)
    have hb:=lt_size e
    exact kp b o (ne_of_lt hb) (ne_of_lt (lt_succ_of_lt hb)) (get?_push_of_some _ (get?_push_of_some _ e))
   ·cases r₂ with
    | error e=>exact hr₂
    | ok fl₂=>cases fl₂ with
     | ret r=>
      obtain ⟨rfl,h',tk,ks,rfl,S1,m1,nd,kp⟩:=hr₂
      repeat (any_goals (first|assumption|wp_step))
      exact h _ _ ks S1 m1 nd kp
     | _=>exact hr₂.elim
  | _=>exact hr1.elim
end
theorem a5r:Slot "set_iterator" "__next__" "set_iterator.__next__" := .of (owner := "set_iterator") (n := "__next__") (by rw [typeLookup_type,builtinLookup_eq_fast];kernel_rfl) (by decide +kernel) (by decide +kernel) (by decide +kernel) (by first|exact .inl (by decide +kernel)|exact .inr (by decide +kernel)) (by rw [isSubtype_type];kernel_rfl)
theorem b31:entryFor table "set_iterator.__next__" = some Builtin.«set_iterator.__next__»:=entryFor_of_tree (by kernel_rfl)
theorem b5a:entryFor table "set.__iter__" = some Builtin.«frozenset.__iter__»:=entryFor_alias (id' := "frozenset.__iter__") (by kernel_rfl) rfl (by decide +kernel) (by kernel_rfl)
theorem b37 (a:Value):argsOk "set_iterator.__next__" ⟨[a],[]⟩:=by unfold argsOk;kernel_rfl
def SetE (h:Heap) (a:Addr) (es:Array (Int×Value)) (ep:Nat) (t:SetTable):Prop:=∃o,h.get? a=some o/\o.ExactSet/\o.data=.set es ep t
def a51 (w:World) (a:Addr) (es:Array (Int×Value)) (ep:Nat):Array (Int×Value):=if w.params.followText "set-order" = true then pickOrder (w.params.setOrder a ep) es else es
theorem a82 (w:World) (a:Addr) (es:Array (Int×Value)) (ep:Nat):(a51 w a es ep).toList.Perm es.toList:=by
 unfold a51
 split
 ·exact a8F _ _
 ·exact .refl _
def markOf (w:World) (t:SetTable) (i:Nat):Nat:=if w.params.followText "set-order" = true then 0 else if i=0 then 0 else t.place.getD (i - 1) 0+1
abbrev b41 (a:Addr) (slot i n ep:Nat):Obj:={ cls:=.type "set_iterator",dict:=none,data:=.fields #[rawInt slot,rawInt i,.ref a,rawInt n,rawInt ep],slots:=#[] }
section
variable {prog:Program} {w:World} {A:Around} {E:Value->Shared->Prop} {s:Shared} {a it:Addr} {es:Array (Int×Value)} {ep:Nat} {t:SetTable}
theorem SetE.state (S:SetE s.heap a es ep t) (hf:t.fits es.size=true) {Q:(Array (Int×Value)×Nat×SetTable)->Shared->Prop} (h:Q (es,ep,t) s):wpAny (model prog w) A (setState a) Q E s:=by
 obtain ⟨o,ho,_,hd⟩:=S
 exact wpAny_setState_of ho hd hf h
theorem b5X {Q:Value->Shared->Prop} (S:SetE s.heap a es ep t) (T:Tb t es.size) (hm:es.size<=4) (h:Q (.ref s.heap.objs.size) { s with heap:=s.heap.push (b41 a 0 0 es.size ep) }):wpAny (model prog w) A (pyIter (.ref a)) Q E s:=by
 have hf:=T.fits (by omega)
 obtain ⟨o,ho,hex,hd⟩:=id S
 have hT:s.TypeIs (.ref a) "set" := ⟨o,ho,hex.1⟩
 refine wpAny_pyIter_slot hT PySem.F.slot_set_iter (wpAny_call_entry PySem.F.slot_set_iter hT b5a ?_ (PySem.F.args_set_iter_1 _))
 unfold Builtin.«frozenset.__iter__»
 rw [show Builtin.Frozenset.slot0 "__iter__" ⟨[.ref a],[]⟩=pure a from rfl]
 refine wpAny_bind (wpAny_pure (wpAny_bind (m:=Builtin.Frozenset.sizeOf a) ?_))
 unfold Builtin.Frozenset.sizeOf setEntries
 refine wpAny_bind (wpAny_bind (S.state hf (wpAny_pure (wpAny_pure (wpAny_bind (m:=setDrawn a) ?_)))))
 unfold setDrawn setsByText
 refine wpAny_bind (S.state hf ?_)
 dsimp only
 refine wpAny_bind (wpAny_bind (wpAny_askSetting (wpAny_pure (wpAny_pure ?_))))
 show wpAny _ _ (if (!w.params.followText "set-order" && (!t.plain && decide (es.size > 1)))=true then _ else _) _ _ _
 rw [T.plain,if_neg (by simp)]
 refine wpAny_bind (wpAny_pure (wpAny_bind (m:=setEpoch a) ?_))
 unfold setEpoch
 refine wpAny_bind (S.state hf (wpAny_pure (wpAny_bind (m:=newFields _ _) ?_)))
 unfold newFields
 refine wpAny_newObj_type (wpAny_pure ⟨_,rfl,"set_iterator",_,⟨_,get?_push_size _ rfl,rfl⟩,a5r.lookup,h⟩) (by size_fits)
theorem b4Q (T:Tb t es.size) (hw:w.params.followText "set-order" = false) {i:Nat} (hi:i<=es.size):SetTable.below t.place (markOf w t i)=i:=by
 unfold markOf
 rw [if_neg (by rw [hw];exact Bool.false_ne_true)]
 by_cases h0:i=0
 ·subst h0;rw [if_pos rfl];exact b5l T.rise
 ·rw [if_neg h0]
  have hlt:i - 1<t.place.size:=by rw [T.size];omega
  have:=b5m T.rise hlt
  rw [Array.getD_eq_getD_getElem?,Array.getElem?_eq_getElem hlt,Option.getD_some,this]
  omega
theorem b5U {Q:Option (Value×Nat)->Shared->Prop} {i:Nat} (S:SetE s.heap a es ep t) (T:Tb t es.size) (hm:es.size<=4) (hled:t.led=!w.params.followText "set-order") (hi:i<=es.size)
  (h:Q ((a51 w a es ep)[i]?.map fun e=>(e.2,markOf w t (i+1))) s):wpAny (model prog w) A (setNext a (markOf w t i) i ep) Q E s:=by
 have hf:=T.fits (by omega)
 unfold setNext setsByText
 refine wpAny_bind (S.state hf ?_)
 dsimp only
 refine wpAny_bind (wpAny_bind (wpAny_askSetting (wpAny_pure ?_)))
 cases hw:w.params.followText "set-order" with
 | true=>
  show wpAny _ _ (if w.params.followText "set-order" = true then _ else _) _ _ _
  rw [if_pos hw]
  simp only [bne_self_eq_false,false_eq_true,if_false]
  unfold setWalk setsByText
  refine wpAny_bind (wpAny_bind (S.state hf ?_))
  dsimp only
  refine wpAny_bind (wpAny_bind (wpAny_askSetting (wpAny_pure ?_)))
  show wpAny _ _ (if w.params.followText "set-order" = true then _ else _) _ _ _
  rw [if_pos hw]
  refine wpAny_bind (wpAny_askSetting (wpAny_pure (wpAny_pure ?_)))
  have e1:a51 w a es ep=pickOrder (w.params.setOrder a ep) es:=by unfold a51;rw [if_pos hw]
  have e2:∀j,markOf w t j=0:=fun j=>by unfold markOf;rw [if_pos hw]
  rw [e1,e2] at h
  rw [e2]
  exact h
 | false=>
  show wpAny _ _ (if w.params.followText "set-order" = true then _ else _) _ _ _
  rw [if_neg (by rw [hw];exact Bool.false_ne_true)]
  show wpAny _ _ (if (!t.plain && decide (es.size > 1))=true then _ else _) _ _ _
  rw [T.plain,if_neg (by simp)]
  refine wpAny_bind ?_
  show wpAny _ _ (if (!t.led && !es.isEmpty)=true then _ else _) _ _ _
  rw [hled,hw,if_neg (by simp)]
  refine wpAny_pure (wpAny_pure ?_)
  rw [b4Q T hw hi]
  have e1:a51 w a es ep=es:=by unfold a51;rw [if_neg (by rw [hw];exact Bool.false_ne_true)]
  rw [e1] at h
  by_cases hlt:i<es.size
  ·have hp:i<t.place.size:=by rw [T.size];exact hlt
   rw [Array.getElem?_eq_getElem hlt] at h ⊢
   rw [Array.getElem?_eq_getElem hp]
   have e2:markOf w t (i+1)=t.place[i]+1:=by
    unfold markOf
    rw [if_neg (by rw [hw];exact Bool.false_ne_true),if_neg (by omega),Nat.add_sub_cancel,Array.getD_eq_getD_getElem?,Array.getElem?_eq_getElem hp,Option.getD_some]
   rw [e2] at h
   exact h
  ·rw [Array.getElem?_eq_none (by omega)] at h ⊢
   exact h
theorem a92:(a51 w a es ep).size=es.size:=by rw [←length_toList,(a82 w a es ep).length_eq,length_toList]
theorem b5V {Q:Option Value->Shared->Prop} {i:Nat} {v:Value} (S:SetE s.heap a es ep t) (T:Tb t es.size) (hm:es.size<=4) (hled:t.led=!w.params.followText "set-order") (hit:s.heap.get? it=some (b41 a (markOf w t i) i es.size ep)) (hi:i<es.size) (hv:((a51 w a es ep)[i]?.map (·.2))=some v)
  (h:∀h',h'.get? it=some (b41 a (markOf w t (i+1)) (i+1) es.size ep)->Heap.SameBut it s.heap h'->Q (some v) { s with heap:=h' }):wpAny (model prog w) A (pyNext (.ref it)) Q E s:=by
 have hf:=T.fits (by omega)
 have hT:s.TypeIs (.ref it) "set_iterator" := ⟨_,hit,rfl⟩
 unfold pyNext
 refine wpAny_bind (wpAny_attempt (wpAny_callSpecial?_slot (name:=Str.ofString "__next__") hT a5r (wpAny_call_entry a5r hT b31 ?_ (b37 _))))
 unfold Builtin.«set_iterator.__next__»
 rw [show slotArgs "__next__" 0 ⟨[.ref it],[]⟩=pure (.ref it,[]) from rfl]
 refine wpAny_bind (wpAny_pure (wpAny_bind (wpAny_fieldsOf hit rfl ?_)))
 show wpAny _ _ (setEntries a >>= _) _ _ _
 unfold setEntries
 refine wpAny_bind (wpAny_bind (S.state hf (wpAny_pure ?_)))
 show wpAny _ _ (if (((es.size:Nat):Int) != ((es.size:Nat):Int))=true then _ else _) _ _ _
 rw [if_neg (by simp)]
 show wpAny _ _ (setNext a ((markOf w t i:Nat):Int).toNat ((i:Nat):Int).toNat ((ep:Nat):Int).toNat >>= _) _ _ _
 rw [toNat_natCast,toNat_natCast,toNat_natCast]
 refine wpAny_bind (b5U S T hm hled (by omega) ?_)
 cases ho:(a51 w a es ep)[i]? with
 | none=>rw [ho] at hv;cases hv
 | some e=>
  rw [ho] at hv
  cases hv
  show wpAny _ _ (setField (.ref it) 0 (rawInt ((markOf w t (i+1):Nat):Int)) >>= _) _ _ _
  refine wpAny_bind (wpAny_setField_rec hit (by simp) fun h1 i1 s1=>?_)
  refine wpAny_bind (wpAny_setField_rec (s:={ s with heap:=h1 }) i1 (by simp) fun h2 i2 s2=>?_)
  exact wpAny_pure ⟨_,rfl,wpAny_pure (h h2 i2 (s1.trans s2))⟩
theorem b5Y {Q:Option Value->Shared->Prop} (hh:A.handled=none) (S:SetE s.heap a es ep t) (T:Tb t es.size) (hm:es.size<=4) (hled:t.led=!w.params.followText "set-order") (hit:s.heap.get? it=some (b41 a (markOf w t es.size) es.size es.size ep))
  (h:∀h',Heap.ExtBut it s.heap h'->Q none { s with heap:=h' }):wpAny (model prog w) A (pyNext (.ref it)) Q E s:=by
 have hf:=T.fits (by omega)
 have hT:s.TypeIs (.ref it) "set_iterator" := ⟨_,hit,rfl⟩
 unfold pyNext
 refine wpAny_bind (wpAny_attempt (wpAny_callSpecial?_slot (name:=Str.ofString "__next__") hT a5r (wpAny_call_entry a5r hT b31 ?_ (b37 _))))
 unfold Builtin.«set_iterator.__next__»
 rw [show slotArgs "__next__" 0 ⟨[.ref it],[]⟩=pure (.ref it,[]) from rfl]
 refine wpAny_bind (wpAny_pure (wpAny_bind (wpAny_fieldsOf hit rfl ?_)))
 show wpAny _ _ (setEntries a >>= _) _ _ _
 unfold setEntries
 refine wpAny_bind (wpAny_bind (S.state hf (wpAny_pure ?_)))
 show wpAny _ _ (if (((es.size:Nat):Int) != ((es.size:Nat):Int))=true then _ else _) _ _ _
 rw [if_neg (by simp)]
 show wpAny _ _ (setNext a ((markOf w t es.size:Nat):Int).toNat ((es.size:Nat):Int).toNat ((ep:Nat):Int).toNat >>= _) _ _ _
 rw [toNat_natCast,toNat_natCast,toNat_natCast]
 refine wpAny_bind (b5U S T hm hled (le_refl _) ?_)
 rw [Array.getElem?_eq_none (by rw [a92];exact le_refl _)]
 show wpAny _ _ (setField (.ref it) 2 Value.none >>= _) _ _ _
 refine wpAny_bind (wpAny_setField_rec hit (by simp) fun h1 i1 s1=>?_)
 refine wpAny_bind ?_;simp only [newExc,newTuple];refine wpAny_bind (wpAny_newObj_type ?_ (by size_fits))
 refine wpAny_bind (m:=firstArgMember _ _) (wpAny_of_eq (a:=Value.none) (by first|rfl|(simp only [firstArgMember];rfl)) ?_);refine wpAny_newObj_type ?_ (by size_fits);simp only [raiseNew]
 refine wpAny_bind (wpAny_handled ?_);first|rw [show A.in1.handled=none from hh]|rw [hh]
 refine wpAny_bind (wpAny_pure (wpAny_throw ?_))
 refine wpAny_bind (wpAny_isInstance (T := "StopIteration") (b:=true) ⟨_,get?_push_size _ rfl,rfl⟩ isSubtype_stop ?_)
 exact wpAny_pure (h _ ((s1.extBut.push _).push _))
end
theorem b00:Slot "set_iterator" "__iter__" "set_iterator.__iter__" := .of (owner := "set_iterator") (n := "__iter__") (by rw [typeLookup_type,builtinLookup_eq_fast];kernel_rfl) (by decide +kernel) (by decide +kernel) (by decide +kernel) (by first|exact .inl (by decide +kernel)|exact .inr (by decide +kernel)) (by rw [isSubtype_type];kernel_rfl)
theorem b7c:entryFor table "set_iterator.__iter__" = some Builtin.«dict_keyiterator.__iter__»:=entryFor_alias (id' := "dict_keyiterator.__iter__") (by kernel_rfl) rfl (by decide +kernel) (by kernel_rfl)
theorem b7x (a:Value):argsOk "set_iterator.__iter__" ⟨[a],[]⟩:=by unfold argsOk;kernel_rfl
section
variable {prog:Program} {w:World} {A:Around} {E:Value->Shared->Prop} {s:Shared} {a:Addr} {es:Array (Int×Value)} {ep:Nat} {t:SetTable}
theorem SetE.at {h h':Heap} (S:SetE h a es ep t) (k:∀o,h.get? a=some o->h'.get? a=some o):SetE h' a es ep t:=by
 obtain ⟨o,ho,r⟩:=S
 exact ⟨o,k o ho,r⟩
theorem b39 (hh:A.handled=none) (T:Tb t es.size) (hm:es.size<=4) (hled:t.led=!w.params.followText "set-order") (it:Addr) (ne:a≠it):
  Walks prog w A it [it,a] [it] es.size (fun i v=>((a51 w a es ep)[i]?.map (·.2))=some v) (fun i h=>h.get? it=some (b41 a (markOf w t i) i es.size ep)/\SetE h a es ep t) where
 sub:=fun b hb=>by rw [mem_singleton.mp hb];simp
 frame:=fun i h h' st k=>⟨k it (by simp) _ st.1,st.2.at fun o e=>k a (by simp) o e⟩
 item:=fun i s Q E hi st hQ=>by
  have hlt:i<(a51 w a es ep).size:=by rw [a92];exact hi
  refine b5V (v:=(a51 w a es ep)[i].2) st.2 T hm hled st.1 hi (by rw [Array.getElem?_eq_getElem hlt];rfl) fun h' i1 sb=>?_
  exact hQ _ h' s.toks (by rw [Array.getElem?_eq_getElem hlt];rfl) ⟨i1,st.2.at fun o e=>sb.extBut _ _ ne e⟩ fun b o hb e=>sb.extBut b o (by simpa using hb) e
 done:=fun s Q E st hQ=>b5Y hh st.2 T hm hled st.1 fun h' kp=>hQ h' s.toks fun b o hb e=>kp b o (by simpa using hb) e
 self:=fun i s Q E st h=>by
  have hT:s.TypeIs (.ref it) "set_iterator" := ⟨_,st.1,rfl⟩
  refine wpAny_pyIter_slot hT b00 (wpAny_call_entry b00 hT b7c (wpAny_pure ⟨_,rfl,"set_iterator",_,hT,a5r.lookup,h⟩) (b7x _))
theorem hint_set (hT:s.TypeIs (.ref a) "set") {Q:Bool->Shared->Prop} (h:Q false s):wpAny (model prog w) A (Builtin.List.listLengthHint (.ref a)) Q E s:=by
 unfold Builtin.List.listLengthHint
 refine wpAny_bind (wpAny_specialOf hT PySem.F.slot_set_len.lookup ?_);generalize hid:("set.__len__" : String)=id0;wp_delta
 rw [show splitId id0=some ("set","__len__") from by subst hid;decide +kernel];subst hid
 refine wpAny_bind (wpAny_isInstance (T := "set") (b:=true) hT (by rw [isSubtype_type];kernel_rfl) (wpAny_ite_split (fun hab=>absurd hab (by decide)) (fun _=>wpAny_ite_split (fun _=>?_) (fun hab=>absurd (by decide +kernel) hab))))
 exact wpAny_bind (wpAny_typeOf hT (wpAny_pure h))
theorem kdl_setx (T:Tb t es.size) (hm:es.size<=4) (hled:t.led=!w.params.followText "set-order"):KdlSrc prog w "set" a a es.size (fun i v=>((a51 w a es ep)[i]?.map (·.2))=some v) (fun h=>SetE h a es ep t) where
 type:=fun s S=>by obtain ⟨o,ho,hex,_⟩:=S;exact ⟨o,ho,hex.1⟩
 there:=fun h S=>by obtain ⟨o,ho,_⟩:=S;exact ⟨lt_size ho,lt_size ho⟩
 keep:=fun h h' S k=>S.at fun o e=>k a (.inl rfl) o e
 notList:=by decide
 notTuple:=by decide
 hint:=fun A E s Q S hq=>by obtain ⟨o,ho,hex,_⟩:=S;exact hint_set ⟨o,ho,hex.1⟩ hq
 iter:=fun A s hh S=>by
  have hlt:a<s.heap.objs.size:=by obtain ⟨o,ho,_⟩:=S;exact lt_size ho
  refine ⟨b41 a 0 0 es.size ep,_,fun E Q hq=>b5X S T hm hq,b39 hh T hm hled _ (ne_of_lt hlt),?_,S.at fun o e=>get?_push_of_some _ e⟩
  have:markOf w t 0=0:=by unfold markOf;split <;> rfl
  rw [this]
  exact get?_push_size _ rfl
theorem b10 {es es':List Value} (p:es'.Perm es):∀{ks:List Int},IntsAre es ks->∃ks',IntsAre es' ks'/\ks'.Perm ks:=by
 have q:=p.symm
 clear p
 induction q with
 | nil=>intro ks h;cases h;exact ⟨[],.nil,.refl _⟩
 | cons x _ ih=>
  intro ks h
  cases h with
  | cons k tk t=>obtain ⟨ks',e,p⟩:=ih t;exact ⟨k::ks',.cons k tk e,p.cons k⟩
 | swap x y l=>
  intro ks h
  cases h with
  | cons k tk t=>cases t with
   | cons k2 tk2 t2=>exact ⟨k2::k::_,.cons k2 tk2 (.cons k tk t2),List.Perm.swap _ _ _⟩
 | trans _ _ ih1 ih2=>
  intro ks h
  obtain ⟨k1,e1,p1⟩:=ih1 h
  obtain ⟨k2,e2,p2⟩:=ih2 e1
  exact ⟨k2,e2,p2.trans p1⟩
theorem collectX {T:String} {r d:Addr} {n:Nat} {P:Nat->Value->Prop} {OK:Heap->Prop} {R:List Value->Shared->Prop} (K:KdlSrc prog w T r d n P OK) (hh:A.handled=none) (hok:OK s.heap) (hn:n<=sizeLine)
  (h:∀(h':Heap) (tk:Nat) (acc:Array Value),(∀b o,s.heap.get? b=some o->h'.get? b=some o)->s.heap.objs.size<h'.objs.size->ItemsOf P acc n->R acc.toList { s with heap:=h',toks:=tk }):wpAny (model prog w) A (collect (.ref r)) R E s:=by
 obtain ⟨hr,hd⟩:=K.there _ hok
 unfold collect
 refine wpAny_bind (wpAny_runValue (codeAny_builtin entry_proto_collect' ?_));rw [Around.under_plainId PySem.F.plain_proto_collect _]
 refine wpAny_bind (m:=newList []) (wpAny_newObj_type (wpAny_pure ⟨plainId_quiet PySem.F.plain_list_iadd _,codeAny_builtin entry_list_iadd' ?_⟩));rw [Around.under_plainId PySem.F.plain_list_iadd _]
 have e0:(s.heap.push { cls:=.type "list",data:=.seq ([]:List Value).toArray }).get? s.heap.objs.size=some { cls:=.type "list",data:=.seq #[] }:=get?_push_size _ rfl
 have fin:∀(q:Result) (s':Shared),(∃(h':Heap) (tk:Nat) (acc:Array Value) (c:Nat),q=.ok (.ret (.ref s.heap.objs.size))/\s'={ s with heap:=h',toks:=tk }/\(∀b o,s.heap.get? b=some o->h'.get? b=some o)/\h'.get? s.heap.objs.size=some { cls:=.type "list",dict:=none,data:=.seq acc c,slots:=#[] }/\ItemsOf P acc n)->∃v,q=.ok (.ret v)/\wpAny (model prog w) A (match v with|.ref a=>(do match (←load a).data with|.seq xs _=>pure xs.toList|_=>unsupported "internal:collect")|_=>unsupported "internal:collect") R E s':=by
  rintro q s' ⟨h',tk,acc,c,rfl,rfl,kp,e,it⟩
  exact ⟨_,rfl,wpAny_bind (wpAny_load e (wpAny_pure (h h' tk acc kp (lt_size e) it)))⟩
 have key:=PySem.W.kdl_extend (A:=A) (s:={ s with heap:=s.heap.push { cls:=.type "list",data:=.seq ([]:List Value).toArray } }) (R:=fun q s'=>∃(h':Heap) (tk:Nat) (acc:Array Value) (c:Nat),q=.ok (.ret (.ref s.heap.objs.size))/\s'={ s with heap:=h',toks:=tk }/\(∀b o,s.heap.get? b=some o->h'.get? b=some o)/\h'.get? s.heap.objs.size=some { cls:=.type "list",dict:=none,data:=.seq acc c,slots:=#[] }/\ItemsOf P acc n)
  K hh (K.keep _ _ hok fun b _ o e=>get?_push_of_some _ e) s.heap.objs.size (ne_of_gt hr) (ne_of_gt hd) (.ref s.heap.objs.size) 0 e0 (fun h' tk acc c kp e it=>⟨h',tk,acc,c,rfl,rfl,fun b o q=>kp b o (ne_of_lt (lt_size q)) (get?_push_of_some _ q),e,it⟩) hn
 refine wpAny_mono key (fun fn s' x=>?_) (fun e s' x=>by obtain ⟨_,_,_,_,z,_⟩:=x;cases z)
 cases fn with
 | done f=>obtain ⟨v,e,z⟩:=fin _ _ x;cases e;exact z
 | again c=>exact ⟨x.1,codeAny_mono x.2 fun q s2 y=>by obtain ⟨v,e,z⟩:=fin _ _ y;subst e;exact z⟩
theorem b14 {ks:List Int} {Q:Value->Shared->Prop} (hh:A.handled=none) (S:SetX w s.heap a ks) (hk:ks.length<=4)
  (h:∀(h':Heap) (tk:Nat) (out:List Value) (ns:List Int) (D:Addr) (n:Nat),IntsAre out ns->ns.Perm ks->ns.Pairwise (·<=·)->(∀b o,s.heap.get? b=some o->h'.get? b=some o)->s.heap.objs.size<=D->h'.get? D=some { cls:=.type "list",data:=.seq out.toArray n }->Q (.ref D) { s with heap:=h',toks:=tk }):
  wpAny (model prog w) A (call (.builtin "sorted") [.ref a]) Q E s:=by
 obtain ⟨o,es,ep,t,ks',ho,hex,hd,hes,hp,T,hled⟩:=S
 have hsz:es.size=ks.length:=by rw [←length_toList,hes.length,hp.length_eq]
 have S1:SetE s.heap a es ep t:=⟨o,ho,hex,hd⟩
 refine Calls.call_function_entry kind_sorted plain_sorted entry_sorted (args_sorted1 _) ?_
 unfold Builtin.«sorted»
 refine wpAny_bind (m:=checkCount "sorted" 1 1 _) (wpAny_pure (wpAny_bind (collectX (A:=A.in1) (kdl_setx T (by omega) hled) hh S1 (by rw [sizeLine_eq];omega) fun h1 tk acc kp hlt0 hacc=>?_)))
 have hperm:(acc.toList).Perm (es.toList.map (·.2)):=by
  have e:acc.toList=(a51 w a es ep).toList.map (·.2):=by
   refine List.ext_getElem? fun i=>?_
   rw [getElem?_map,getElem?_toList,getElem?_toList]
   by_cases hi:i<acc.size
   ·have:=hacc.2 i acc[i] (Array.getElem?_eq_getElem hi)
    rw [Array.getElem?_eq_getElem hi,this]
   ·rw [Array.getElem?_eq_none (by omega),Array.getElem?_eq_none (by rw [a92,←hacc.1];omega)]
    rfl
  rw [e]
  exact (a82 w a es ep).map _
 obtain ⟨k1,hints,pk⟩:∃k1,IntsAre acc.toList k1/\k1.Perm ks:=by
  obtain ⟨k1,e1,p1⟩:=b10 hperm hes.ints
  exact ⟨k1,e1,p1.trans hp⟩
 have hal:acc.toList.length<=4:=by rw [hints.length,pk.length_eq];exact hk
 refine wpAny_bind (wpAny_newList ?_ (by rw [sizeLine_eq];omega))
 have hoL:(h1.push { cls:=.type "list",data:=.seq acc.toList.toArray }).get? h1.objs.size=some (seqObj "list" acc.toList.toArray 0):=get?_push_size _ rfl
 refine wpAny_bind (wpAny_holding (wpAny_call_entry (s:={ s with heap:=h1.push { cls:=.type "list",data:=.seq acc.toList.toArray },toks:=tk }) slot_list_sort ⟨_,hoL,rfl⟩ entry_list_sort (list_sort_tree hoL hints (by omega) fun out ns' i1 p2 so=>⟨_,rfl,?_⟩) (args_list_sort _)))
 obtain ⟨e,he⟩:=sortedHeap_at (out:=out) hoL
 have hle:s.heap.objs.size<=h1.objs.size:=le_of_lt hlt0
 refine wpAny_pure ⟨_,rfl,h _ _ out.toList ns' h1.objs.size e i1 (p2.trans pk) so (fun b o hb=>?_) hle (by simpa [seqObj] using he)⟩
 have hb1:=kp b o hb
 have hlt:=lt_size hb1
 rw [sortedHeap_old (ne_of_lt hlt) (by rw [size_push];exact lt_succ_of_lt hlt)]
 exact get?_push_of_some _ hb1
end
section
variable {X:Cx}
def few (ns:List Int):Prop:=ns.length<=4/\∀n∈ns,0<=n/\n<32
def setO (w:World) (a:Addr) (ks:List Int):HO:=.ext fun h=>SetX w h a ks
theorem setO_ok {P:Program} {w:World} {H:Hp} {h:Heap} {a:Addr} {ks:List Int} (S:SetX w h a ks):a3n P w H h a (setO w a ks):=by
 refine ⟨S,?_,fun h1 h2 S1 k=>S1.at k⟩
 obtain ⟨o,_,_,_,_,e,_⟩:=S
 exact ⟨o,e⟩
theorem b7p (hc:X.calm=true):a2M X (.type "set") (fun xs H Q=>∃(p:Addr) (ns:List Int),xs=[.ref p]/\SqL X.K H p (ns.map V.int)/\few ns/\∀(a:Addr) (ks:List Int),H a=none->(∀n,n∈ks↔n∈ns)->ks.Nodup->Q (.ref a) (upd H a (setO X.w a ks))):=fun pins s σ H xs us Q I rs ⟨p,ns,ex,sq,fw,q⟩=>by
 subst ex
 obtain ⟨u,rfl,r2⟩:=a6T rs
 obtain rfl:u=Value.ref p:=r2
 obtain ⟨its,rv,pl,hz⟩:=I.list sq
 refine b7o (I.ok.hd hc) pl.isList (by simpa using b43 rv) fw.2 fw.1 fun h' tk ks S m nd kp=>?_
 exact ⟨.ref s.heap.objs.size,_,I.laid (o:=setO X.w s.heap.objs.size ks) (t':=tk) kp (le_refl _) (setO_ok S),rfl,q _ ks (I.hok.fresh (le_refl _)) m nd⟩
theorem a8Q:∀{us:List Value} {ns:List Int},IntsAre us ns->Vals (ns.map V.int) us
 | _,_,.nil=>.nil
 | _,_,.cons n t r=>.cons ⟨t,rfl⟩ (a8Q r)
theorem b15 (hc:X.calm=true):a2M X (.builtin "sorted") (fun xs H Q=>∃(a:Addr) (ks:List Int),xs=[.ref a]/\H a=some (setO X.w a ks)/\ks.length<=4/\∀(l:Addr) (ns:List Int),H l=none->ns.Perm ks->ns.Pairwise (·<=·)->Q (.ref l) (upd H l (.lst (ns.map V.int)))):=fun pins s σ H xs us Q I rs ⟨a,ks,ex,ea,hk,q⟩=>by
 subst ex
 obtain ⟨u,rfl,r2⟩:=a6T rs
 obtain rfl:u=Value.ref a:=r2
 obtain ⟨S,_,_⟩:SetX X.w s.heap a ks/\_:=I.hok a _ ea
 refine b14 (I.ok.hd hc) S hk fun h' tk out ns D n it pm so kp hD e=>?_
 refine ⟨.ref D,_,I.laid (o:=.lst (ns.map V.int)) (t':=tk) kp hD ⟨?_,out,n,a8Q it,e⟩,rfl,q D ns (I.hok.fresh hD) pm so⟩
 rw [length_map,pm.length_eq,sizeLine_eq]
 omega
theorem b7s:bootBuiltins "set" = some (.type "set"):=by decide +kernel
theorem b19:bootBuiltins "sorted" = some (.builtin "sorted"):=by decide +kernel
end
end L2
namespace L2
open PySem PySem.Spec PyProof.Rows PySem.W
section
variable {prog:Program} {w:World} {A:Around} {E:Value->Shared->Prop} {s:Shared} {it l:Addr}
end
def revO (it l:Addr) (n:Nat):HO:=.ext fun h=>h.IsRevIter it l ((n:Int) - 1)
section
variable {X:Cx} {pins:List (Addr×Obj)} {σ:St} {s:Shared}
theorem Inv.drop {H0:Hp} {it:Addr} {φ:Heap->Prop} (I:Inv X pins σ (upd H0 it (.ext φ)) s) (hn:H0 it=none):Inv X pins σ H0 s:=by
 have ne:∀b u,H0 b=some u->b≠it:=fun b u e z=>by rw [z,hn] at e;cases e
 have ne2:∀b u,upd H0 it (.ext φ) b=some u->(∀ψ,u≠.ext ψ)->H0 b=some u:=fun b u e hu=>by
  by_cases z:b=it
  ·subst z;rw [a0O] at e;cases e;exact absurd rfl (hu φ)
  ·rwa [a0J z] at e
 refine I.un (h':=s.heap) (t':=s.toks) ⟨fun b o q _ _ _=>q,fun b o q _ _ _=>⟨o.slots,q⟩,fun b o q n _=>?_,fun b o q _=>⟨o,q⟩,fun b xs q=>ne2 b _ q (fun ψ z=>nomatch z),fun b o u q=>ne2 b _ q (fun ψ z=>nomatch z),fun b ps q=>⟨#[],by rw [ne2 b _ q (fun ψ z=>nomatch z)];simp⟩⟩ fun b u e=>?_
 ·by_cases z:b=it
  ·rw [z];exact hn
  ·rwa [a0J z] at n
 ·have q:=I.hok b u (by rw [a0J (ne b u e)];exact e)
  exact q.stay (fun c v _ r=>r) (fun c r=>ne2 c _ r (fun ψ z=>nomatch z)) (fun c xs r=>ne2 c _ r (fun ψ z=>nomatch z)) fun c ob u r=>ne2 c _ r (fun ψ z=>nomatch z)
end
end L2
namespace L2
open PySem PySem.Spec
section
variable {prog:Program} {w:World} {A:Around} {R:Result->Shared->Prop} {I:Addr} {fp wr:List Addr} {n:Nat} {P:Nat->Value->Prop} {St:Nat->Heap->Prop}
end
section
variable {prog:Program} {w:World} {A:Around} {E:Value->Shared->Prop} {s:Shared} {d it:Addr} {od:Obj} {es:Array DictEntry} {ep i:Nat}
theorem dk_len {Q:Value->Shared->Prop} (lo:(d == sysModules)=false) (gd:s.heap.get? d=some od) (ex:od.ExactDict) (dt:od.data=.dict es ep) (sm:(es.size:Int)<2 ^ 63) (q:∀t tk,Q (.int es.size t) { s with toks:=tk }):wpAny (model prog w) A (call (.builtin "len") [.ref d]) Q E s:=by
 have ty:s.TypeIs (.ref d) "dict" := ⟨od,gd,ex.1⟩
 refine Calls.call_function_entry kind_len plain_len entry_len (args_len1 _) ?_
 unfold Builtin.«len»;refine wpAny_bind (m:=oneArg "len" _) (wpAny_pure ?_)
 refine wpAny_bind (m:=callSpecial? (.ref d) (Str.ofString "__len__")) (wpAny_callSpecial?_slot (name:=Str.ofString "__len__") ty F.slot_dict_len (wpAny_call_entry F.slot_dict_len ty F.entry_dict_len ?_ (F.args_dict_len_1 _)))
 show wpAny _ _ (dictSize d >>= _) _ _ s;unfold dictSize;refine wpAny_bind (wpAny_bind (wpAny_dictEntries gd dt (wpAny_pure ?_)))
 show wpAny _ _ (Builtin.Dict.pendingCount d >>= _) _ _ s;refine wpAny_bind (wpAny_pendingCount_other lo (wpAny_ret_mkInt ?_))
 refine wpAny_bind (wpAny_holding (wpAny_pure ?_));refine wpAny_bind (wpAny_letGo ?_)
 show wpAny _ _ (if ((es.size:Int)+((0:Nat):Int))<0 then _ else _) _ _ _;rw [if_neg (by omega)]
 show wpAny _ _ (if ((es.size:Int)+((0:Nat):Int)) ≥ 2 ^ 63 then _ else _) _ _ _;rw [if_neg (by omega)]
 have z:((es.size:Int)+((0:Nat):Int))=(es.size:Int):=by omega
 rw [z];exact wpAny_bind (wpAny_mkInt (wpAny_pure ⟨_,rfl,q _ _⟩))
end
end L2
namespace L2
open PySem PySem.Spec PyProof.Rows
section
variable {X:Cx} {pins:List (Addr×Obj)} {σ:St} {H:Hp} {s:Shared} {a:Addr} {ob:Obj} {kvs:List (List Key×V)}
theorem Inv.swap {H':Hp} {u u':HO} (I:Inv X pins σ H s) (e:H a=some u) (e':H' a=some u') (o:∀b,b≠a->H' b=H b) (n1:∀xs,u≠.tup xs) (n2:∀y,u≠.own y) (n3:∀o y,u≠.frz o (.own y)) (n4:∀ps,u≠.tbl ps) (n5:∀o v,X.H₀ a≠some (.frz o v)) (n6:∀ps,X.H₀ a≠some (.tbl ps)) (new:a3n X.prog X.w H' s.heap a u'):Inv X pins σ H' s:=by
 have ne:∀{b:Addr},H b=none->b≠a:=fun z y=>by subst y;rw [e] at z;cases z
 have keep:∀{b:Addr} {v:HO},H b=some v->v≠u->H' b=some v:=fun {b v} z w=>by
  by_cases hb:b=a
  ·subst hb;rw [e] at z;cases z;exact absurd rfl w
  ·rw [o b hb];exact z
 refine ⟨I.ok,I.os,I.bare,⟨I.base.keep,I.base.slot,fun b x z n hx=>?_,I.base.there,fun b xs z=>?_,fun b x v z=>?_,fun b ps z=>?_⟩,I.loc,I.cell,?_,fun x c z=>?_,fun p hp=>?_,fun b x z=>?_,I.len⟩
 ·have:=I.base.free b x z n hx
  rw [o b (ne this)];exact this
 ·exact keep (I.base.tups b xs z) fun y=>n1 xs y.symm
 ·by_cases hb:b=a
  ·subst hb;exact absurd z (n5 x v)
  ·rw [o b hb];exact I.base.frzs b x v z
 ·by_cases hb:b=a
  ·subst hb;exact absurd z (n6 ps)
  ·rw [o b hb];exact I.base.tbls b ps z
 ·rw [o _ (ne I.free)];exact I.free
 ·rw [o _ (ne (I.freeC x c z))];exact I.freeC x c z
 ·obtain ⟨h1,h2,h3⟩:=I.pin p hp
  exact ⟨h1,by rw [o _ (ne h2)];exact h2,h3⟩
 ·by_cases hb:b=a
  ·subst hb
   rw [e'] at z
   cases z
   exact new
  ·rw [o b hb] at z
   exact (I.hok b x z).stay (fun c v _ q=>q) (fun c q=>keep q fun y=>n2 _ y.symm) (fun c xs q=>keep q fun y=>n1 _ y.symm) fun c oc y q=>keep q fun z=>n3 _ _ z.symm
def tFrz (t:TE):TE:=fun σ H Q=>∃a kvs,H a=some (.dT kvs)/\∀ob,t σ (upd H a (.frz ob (.dT kvs))) fun v H'=>H' a=some (.frz ob (.dT kvs))/\Q v (upd H' a (.dT kvs))
def Itd (a:Addr) (ob:Obj) (kvs:List (List Key×V)):It where
 go:=fun i H=>H a=some (.frz ob (.dT kvs))/\i<kvs.length
 yld:=fun i H x H'=>H'=H/\∃b p,x=.ref b/\kvs[i]?=some p/\H b=some (.tup (p.1.map kV))
 stop:=fun i H=>H a=some (.frz ob (.dT kvs))/\kvs.length<=i
def iDct (i:Nat):TI:=fun σ H R=>∃a ob kvs,σ[i]?=some (some (.ref a))/\H a=some (.frz ob (.dT kvs))/\R (Itd a ob kvs) H
end
abbrev ItI (h:Heap) (it d:Addr) (i n ep:Nat) (ok ov f0:Value) (f1:Bool):Prop:=
 h.get? it=some { cls:=.type "dict_itemiterator",dict:=none,data:=.fields #[f0,.bool f1,.ref d,.int i 0,.int n 0,.int ep 0,ok,ov],slots:=#[] }
section
variable {prog:Program} {w:World} {A:Around} {E:Value->Shared->Prop} {s:Shared} {it d v:Addr} {od:Obj} {es:Array DictEntry} {i ep:Nat} {ok ov f0:Value} {f1:Bool}
theorem di_view {Q:Value->Shared->Prop} (lo:(d == sysModules)=false) (gd:s.heap.get? d=some od) (ex:od.ExactDict)
  (q:Q (.ref s.heap.objs.size) { s with heap:=s.heap.push { cls:=.type "dict_items",data:=.fields #[.ref d] } }):wpAny (model prog w) A (call (.builtin "dict.items") [.ref d]) Q E s:=by
 have ty:s.TypeIs (.ref d) "dict" := ⟨od,gd,ex.1⟩
 refine wpAny_call_entry F.slot_dict_items ty F.entry_dict_items ?_ (F.args_dict_items_1 _);unfold Builtin.«dict.items» Builtin.Dict.noArgs
 refine wpAny_bind (wpAny_bind (wpAny_notOrdered_dict ty ?_));show wpAny _ _ (pure d) _ _ s;refine wpAny_pure ?_
 show wpAny _ _ (Builtin.Dict.showsAll d >>= _) _ _ s;unfold Builtin.Dict.showsAll;rw [if_neg (by rw [lo];exact Bool.false_ne_true)]
 exact wpAny_bind (wpAny_pure (wpAny_bind (wpAny_newObj_type (wpAny_pure ⟨_,rfl,q⟩))))
theorem di_iter {Q:Value->Shared->Prop} (hv:s.heap.IsItemsView v d) (gd:s.heap.get? d=some od) (dt:od.data=.dict es ep)
  (q:Q (.ref s.heap.objs.size) { s with heap:=s.heap.push { cls:=.type "dict_itemiterator",data:=.fields #[.none,.bool false,.ref d,.int 0 0,.int es.size 0,.int ep 0,.none,.none] } }):wpAny (model prog w) A (pyIter (.ref v)) Q E s:=by
 obtain ⟨o,h1,h2,h3⟩:=id hv
 refine wpAny_pyIter_slot hv.typeIs F.slot_dict_items_iter (wpAny_call_entry F.slot_dict_items_iter hv.typeIs F.entry_dict_items_iter ?_ (F.args_dict_items_iter_1 _));unfold Builtin.«dict_items.__iter__»;refine wpAny_bind (wpAny_pure (wpAny_bind ?_))
 unfold Builtin.Dict_items.dictOf;refine wpAny_bind (wpAny_field h1 h3 (x:=.ref d) rfl (wpAny_pure (wpAny_bind ?_)));unfold Builtin.Dict_items.newIterator
 refine wpAny_bind (wpAny_dictEntries gd dt (wpAny_bind (wpAny_dictEpoch gd dt ?_)));simp only [show Builtin.Dict_items.ownsTuple "dict_itemiterator" = true by decide,if_true]
 refine wpAny_newObj_type (wpAny_pure ⟨_,rfl,"dict_itemiterator",_,⟨_,get?_push_size _ rfl,rfl⟩,F.slot_dict_itemiterator_next.lookup,?_⟩) (by simp only [sizeOk,Builtin.Dict_items.ownedTupleFields,size_toArray,length_append,length_cons,length_nil,sizeLine_eq];omega)
 simpa [rawInt,Builtin.Dict_items.ownedTupleFields] using q
theorem di_item {e:DictEntry} {Q:Option Value->Shared->Prop} (hit:ItI s.heap it d i es.size ep ok ov f0 f1) (gd:s.heap.get? d=some od) (dt:od.data=.dict es ep) (hx:es[i]?=some e)
  (hf:f0=.none\/∃(a:Addr) (oa:Obj),f0=rawInt a/\s.heap.get? a=some oa/\a≠it)
  (hQ:∀h' ok' ov' g0 g1,ItI h' it d (i+1) es.size ep ok' ov' g0 g1->(g0=rawInt s.heap.objs.size\/∃(a:Addr) (oa:Obj),g0=rawInt a/\f0=rawInt a/\s.heap.get? a=some oa/\a≠it)->h'.get? s.heap.objs.size=some { cls:=.type "tuple",data:=.seq #[e.key,e.val] }->h'.objs.size=s.heap.objs.size+1->
   (∀b o,b≠it->s.heap.get? b=some o->h'.get? b=some o)->Q (some (.ref s.heap.objs.size)) { s with heap:=h' }):wpAny (model prog w) A (pyNext (.ref it)) Q E s:=by
 obtain ⟨hp,g,dr,tk,os⟩:=s
 have ty:Shared.TypeIs ⟨hp,g,dr,tk,os⟩ (.ref it) "dict_itemiterator" := ⟨_,hit,rfl⟩
 obtain ⟨hlt,hxe⟩:=Array.getElem?_eq_some_iff.mp hx
 unfold pyNext;refine wpAny_bind (wpAny_attempt (wpAny_callSpecial?_slot (name:=Str.ofString "__next__") ty F.slot_dict_itemiterator_next (wpAny_call_entry F.slot_dict_itemiterator_next ty F.entry_dict_itemiterator_next ?_ (F.args_dict_itemiterator_next_1 _))));refine wpAny_bind (wpAny_pure (wpAny_bind (wpAny_bind ?_)))
 first|refine wpAny_bind (wpAny_typeNameOfWhole_itemiter ty (wpAny_pure (wpAny_bind (wpAny_fieldsOf hit rfl ?_))))|refine wpAny_bind (wpAny_typeNameOf_itemiter ty (wpAny_pure (wpAny_bind (wpAny_fieldsOf hit rfl ?_))))
 simp only [show Builtin.Dict_items.ownsTuple "dict_itemiterator" = true by decide,if_true];show wpAny _ _ (if (Value.ref d == Value.none)=true then _ else _) _ _ _;rw [if_neg (show ¬((Value.ref d == Value.none)=true) from Bool.false_ne_true)]
 refine wpAny_bind (wpAny_pure (wpAny_bind (wpAny_dictEntries gd dt ?_)));rw [if_neg (by simp)];refine wpAny_bind (wpAny_pure (wpAny_bind (wpAny_dictEpoch gd dt ?_)));rw [if_neg (by simp)];refine wpAny_pure ?_
 simp only [show ¬((i:Int)<0) from by omega,if_false,toNat_natCast,hx];refine wpAny_bind ?_
 first|refine wpAny_bind (wpAny_typeNameOfWhole_itemiter ty (wpAny_pure (wpAny_bind (wpAny_isOneOf_itemiter ty ?_))))|refine wpAny_bind (wpAny_typeNameOf_itemiter ty (wpAny_pure (wpAny_bind (wpAny_isOneOf_itemiter ty ?_))))
 show wpAny _ _ (setField (.ref it) 3 (rawInt ((i:Int)+1)) >>= _) _ _ ⟨hp,g,dr,tk,os⟩;refine wpAny_bind (wpAny_setField_rec hit (by simp) fun m1 k1 b1=>?_)
 replace b1:Heap.SameBut it hp m1:=b1
 replace k1:ItI m1 it d (i+1) es.size ep ok ov f0 f1:=by
  have z:((i+1:Nat):Int)=(i:Int)+1:=by omega
  unfold ItI;rw [z];simpa [rawInt] using k1
 have ty1:Shared.TypeIs ⟨m1,g,dr,tk,os⟩ (.ref it) "dict_itemiterator" := ⟨_,k1,rfl⟩
 refine wpAny_bind (wpAny_holding (wpAny_bind (wpAny_isOneOf_itemiter ty1 (wpAny_bind (wpAny_isOneOf_itemiter ty1 ?_)))))
 show wpAny _ _ (Builtin.Dict_items.pairFromOwner (.ref it) 6 e.key e.val) _ _ ⟨m1,g,dr,tk,os⟩;unfold Builtin.Dict_items.pairFromOwner;refine wpAny_bind (wpAny_newTuple ?_)
 have k2:ItI (m1.push { cls:=.type "tuple",data:=.seq #[e.key,e.val] }) it d (i+1) es.size ep ok ov f0 f1:=get?_push_of_some _ k1
 generalize hm:m1.push { cls:=.type "tuple",data:=.seq #[e.key,e.val] }=m2 at k2
 have z1:m1.objs.size=hp.objs.size:=b1.1
 have il:hp.objs.size≠it:=ne_of_gt (lt_size hit)
 have t2:m2.get? hp.objs.size=some { cls:=.type "tuple",data:=.seq #[e.key,e.val] }:=by rw [←hm,←z1];exact get?_push_size _ rfl
 have z2:m2.objs.size=hp.objs.size+1:=by rw [←hm,size_push,z1]
 have o2:∀b o,b≠it->hp.get? b=some o->m2.get? b=some o:=fun b o hb z=>by rw [←hm];exact get?_push_of_some _ (b1.extBut b o hb z)
 show wpAny _ _ (Builtin.Dict_items.ownedTupleIsFree (.ref it) >>= _) _ _ ⟨m2,g,dr,tk,os⟩;rw [z1];refine wpAny_bind ?_;unfold Builtin.Dict_items.ownedTupleIsFree
 clear hm k1 b1 ty1 z1
 have fin:∀(m3:Heap) ok' ov' g0 g1,ItI m3 it d (i+1) es.size ep ok' ov' g0 g1->(g0=rawInt hp.objs.size\/∃(a:Addr) (oa:Obj),g0=rawInt a/\f0=rawInt a/\hp.get? a=some oa/\a≠it)->Heap.SameBut it m2 m3->Q (some (.ref hp.objs.size)) ⟨m3,g,dr,tk,os⟩:=fun m3 ok' ov' g0 g1 k3 hg b3=>
  hQ m3 ok' ov' g0 g1 k3 hg (b3.extBut _ _ il t2) (by show m3.objs.size=_;rw [b3.1,z2]) fun b o hb z=>b3.extBut b o hb (o2 b o hb z)
 rcases hf with rfl|⟨a,oa,rfl,ha,hne⟩
 ·refine wpAny_bind (wpAny_field k2 rfl (x:=.none) rfl (wpAny_pure ?_));simp only [if_true]
  refine wpAny_bind (wpAny_field k2 rfl (x:=ok) rfl (wpAny_bind (wpAny_field k2 rfl (x:=ov) rfl (wpAny_bind (wpAny_setField_rec k2 (by simp) fun m3 k3 b3=>?_)))))
  replace k3:ItI m3 it d (i+1) es.size ep e.key ov .none f1:=k3
  refine wpAny_bind (wpAny_setField_rec k3 (by simp) fun m4 k4 b4=>?_)
  replace k4:ItI m4 it d (i+1) es.size ep e.key e.val .none f1:=k4
  refine wpAny_bind (wpAny_setField_rec k4 (by simp) fun m5 k5 b5=>?_)
  replace k5:ItI m5 it d (i+1) es.size ep e.key e.val (rawInt hp.objs.size) f1:=k5
  refine wpAny_bind (wpAny_setField_rec k5 (by simp) fun m6 k6 b6=>?_)
  have sm:Heap.SameBut it m2 m6:=⟨b6.1.trans (b5.1.trans (b4.1.trans b3.1)),fun c hc=>(b6.2 c hc).trans ((b5.2 c hc).trans ((b4.2 c hc).trans (b3.2 c hc)))⟩
  exact wpAny_bind (wpAny_letGo (wpAny_pure (wpAny_pure ⟨_,rfl,wpAny_pure (fin m6 _ _ _ _ k6 (.inl rfl) sm)⟩)))
 ·refine wpAny_bind (wpAny_field k2 rfl (x:=rawInt a) rfl ?_);show wpAny _ _ (loadIfAlive ((a:Int).toNat) >>= _) _ _ _;rw [toNat_natCast]
  refine wpAny_bind (PySem.W.kdx_alive (o2 a oa hne ha) ?_);simp only [Option.isNone_some,false_eq_true,if_false];refine wpAny_bind (wpAny_field k2 rfl (x:=.bool f1) rfl ?_)
  cases f1 with
  | true=>
   rw [if_neg (show ¬((Value.bool true != Value.bool true)=true) from Bool.false_ne_true)];refine wpAny_pure ?_;simp only [false_eq_true,if_false]
   exact wpAny_pure (wpAny_pure ⟨_,rfl,wpAny_pure (fin m2 _ _ _ _ k2 (.inr ⟨a,oa,rfl,rfl,ha,hne⟩) (Heap.SameBut.refl _ _))⟩)
  | false=>
   rw [if_pos (show (Value.bool false != Value.bool true)=true from rfl)];refine wpAny_bind (wpAny_setField_rec k2 (by simp) fun m3 k3 b3=>?_);refine wpAny_pure ?_;simp only [false_eq_true,if_false]
   exact wpAny_pure (wpAny_pure ⟨_,rfl,wpAny_pure (fin m3 _ _ _ _ k3 (.inr ⟨a,oa,rfl,rfl,ha,hne⟩) b3)⟩)
theorem di_stop {Q:Option Value->Shared->Prop} (hh:A.handled=none) (hit:ItI s.heap it d i es.size ep ok ov f0 f1) (gd:s.heap.get? d=some od) (dt:od.data=.dict es ep) (ge:es.size<=i)
  (hQ:∀h',Heap.ExtBut it s.heap h'->Q none { s with heap:=h' }):wpAny (model prog w) A (pyNext (.ref it)) Q E s:=by
 have ty:s.TypeIs (.ref it) "dict_itemiterator" := ⟨_,hit,rfl⟩
 unfold pyNext;refine wpAny_bind (wpAny_attempt (wpAny_callSpecial?_slot (name:=Str.ofString "__next__") ty F.slot_dict_itemiterator_next (wpAny_call_entry F.slot_dict_itemiterator_next ty F.entry_dict_itemiterator_next ?_ (F.args_dict_itemiterator_next_1 _))));refine wpAny_bind (wpAny_pure (wpAny_bind (wpAny_bind ?_)))
 first|refine wpAny_bind (wpAny_typeNameOfWhole_itemiter ty (wpAny_pure (wpAny_bind (wpAny_fieldsOf hit rfl ?_))))|refine wpAny_bind (wpAny_typeNameOf_itemiter ty (wpAny_pure (wpAny_bind (wpAny_fieldsOf hit rfl ?_))))
 simp only [show Builtin.Dict_items.ownsTuple "dict_itemiterator" = true by decide,if_true];show wpAny _ _ (if (Value.ref d == Value.none)=true then _ else _) _ _ _;rw [if_neg (show ¬((Value.ref d == Value.none)=true) from Bool.false_ne_true)]
 refine wpAny_bind (wpAny_pure (wpAny_bind (wpAny_dictEntries gd dt ?_)));rw [if_neg (by simp)];refine wpAny_bind (wpAny_pure (wpAny_bind (wpAny_dictEpoch gd dt ?_)));rw [if_neg (by simp)];refine wpAny_pure ?_
 simp only [show ¬((i:Int)<0) from by omega,if_false,toNat_natCast,Array.getElem?_eq_none ge];refine wpAny_bind ?_
 first|refine wpAny_bind (wpAny_typeNameOfWhole_itemiter ty (wpAny_pure ?_))|refine wpAny_bind (wpAny_typeNameOf_itemiter ty (wpAny_pure ?_))
 show wpAny _ _ (setField (.ref it) 2 .none >>= _) _ _ s;refine wpAny_bind (wpAny_setField hit rfl (by simp) ?_)
 show wpAny _ _ (newExc (.type "StopIteration") [] >>= _) _ _ _;refine wpAny_bind ?_;simp only [newExc,newTuple]
 refine wpAny_bind (wpAny_newObj_type ?_ (by size_fits));refine wpAny_bind (m:=firstArgMember _ _) (wpAny_of_eq (a:=Value.none) (by first|rfl|(simp only [firstArgMember];rfl)) (wpAny_newObj_type ?_ (by size_fits)))
 simp only [raiseNew];refine wpAny_bind (wpAny_handled ?_);rw [show A.in1.handled=none from hh]
 refine wpAny_bind (wpAny_pure (wpAny_throw ?_));refine wpAny_bind (wpAny_isInstance (T := "StopIteration") (b:=true) ⟨_,get?_push_size _ rfl,rfl⟩ isSubtype_stop ?_)
 exact wpAny_pure (hQ _ (((Heap.SameBut.update ..).extBut.push _).push _))
end
def DiSt (h:Heap) (it d S:Addr) (i n ep:Nat):Prop:=∃ok ov f0 f1,ItI h it d i n ep ok ov f0 f1/\(f0=.none\/∃(a:Addr) (oa:Obj),f0=rawInt a/\h.get? a=some oa/\a≠it/\a≠S)
theorem DiSt.keep {h h':Heap} {it d S:Addr} {i n ep:Nat} (x:DiSt h it d S i n ep) (k:∀b o,b≠S->h.get? b=some o->h'.get? b=some o) (hI:it≠S):DiSt h' it d S i n ep:=by
 obtain ⟨ok,ov,f0,f1,e,f⟩:=x
 refine ⟨ok,ov,f0,f1,k _ _ hI e,?_⟩
 rcases f with f|⟨a,oa,f,ha,h1,h2⟩
 ·exact .inl f
 ·exact .inr ⟨a,oa,f,k _ _ h2 ha,h1,h2⟩
structure DG (es:Array DictEntry) (lo:Addr) (h:Heap) (ts:List Addr):Prop where
 rise:ts.Pairwise (· < ·)
 above:∀a∈ts,lo<a
 pairs:∀(j:Nat) (a:Addr),ts[j]?=some a->∃e,es[j]?=some e/\h.get? a=some { cls:=.type "tuple",data:=.seq #[e.key,e.val] }
section
variable {prog:Program} {w:World} {A:Around} {s:Shared} {d:Addr} {od:Obj} {es:Array DictEntry} {ep:Nat} {R:Result->Shared->Prop}
theorem di_loop {S I:Addr} (hh:A.handled=none) (hSI:S<I) (hSd:d≠S) (hId:d≠I) (dt:od.data=.dict es ep) (hn:es.size<=sizeLine) (res:Value) {h₁:Heap}
  (hR:∀h' tk acc c ts,(∀b o,b≠S->b≠I->h₁.get? b=some o->h'.get? b=some o)->h'.get? S=some { cls:=.type "list",dict:=none,data:=.seq acc c,slots:=#[] }->ts.length=es.size->DG es I h' ts->acc.toList=ts.map Value.ref->R (.ok (.ret res)) { s with heap:=h',toks:=tk }):
  ∀(k i:Nat) (h:Heap) (tk c:Nat) (acc:Array Value) (ts:List Addr),es.size - i=k->i<=es.size->DiSt h I d S i es.size ep->h.get? d=some od->(∀b o,b≠S->b≠I->h₁.get? b=some o->h.get? b=some o)->
   h.get? S=some { cls:=.type "list",dict:=none,data:=.seq acc c,slots:=#[] }->acc.toList=ts.map Value.ref->ts.length=i->DG es I h ts->I<h.objs.size->
   codeAny (model prog w) A (.builtin "list.extend.loop" ⟨[.ref S,.ref I,res],[]⟩) R { s with heap:=h,toks:=tk }:=by
 have hne:S≠I:=ne_of_lt hSI
 intro k
 induction k with
 | zero=>
  intro i h tk c acc ts hk hi hst gd keep hS hacc hal hG hlt
  obtain ⟨ok,ov,f0,f1,hit,_⟩:=hst
  refine codeAny_builtin PySem.F.entry_extend_loop ?_;rw [Around.under_plainId PySem.F.plain_extend_loop _];show wpAny _ A.in1 (pyNext (.ref I) >>= _) _ _ _
  refine wpAny_bind (di_stop (s:={ s with heap:=h,toks:=tk }) (A:=A.in1) hh hit gd dt (by omega) fun h' he=>?_)
  refine wpAny_pure (hR h' tk acc c ts (fun b o h1 h2 e=>he b o h2 (keep b o h1 h2 e)) (he S _ hne hS) (by omega) ⟨hG.rise,hG.above,fun j a hj=>?_⟩ hacc)
  obtain ⟨e,e1,e2⟩:=hG.pairs j a hj
  exact ⟨e,e1,he a _ (ne_of_gt (hG.above a (mem_of_getElem? hj))) e2⟩
 | succ k ih=>
  intro i h tk c acc ts hk hi hst gd keep hS hacc hal hG hlt
  have hlt':i<es.size:=by omega
  have hx:es[i]?=some es[i]:=Array.getElem?_eq_getElem hlt'
  have hsz:acc.size=i:=by rw [←length_toList,hacc,length_map,hal]
  have hSl:S<h.objs.size:=lt_size hS
  obtain ⟨ok,ov,f0,f1,hit,hf⟩:=hst
  refine codeAny_builtin PySem.F.entry_extend_loop ?_;rw [Around.under_plainId PySem.F.plain_extend_loop _];show wpAny _ A.in1 (pyNext (.ref I) >>= _) _ _ _
  refine wpAny_bind (di_item (s:={ s with heap:=h,toks:=tk }) hit gd dt hx (hf.imp_right fun ⟨a,oa,z1,z2,z3,_⟩=>⟨a,oa,z1,z2,z3⟩) fun h' ok' ov' g0 g1 hit' hg ht hz hkp=>?_)
  dsimp only at hg ht hz hkp ⊢
  have hS':=hkp S _ hne hS
  have up:∀b o,b≠S->h'.get? b=some o->(h'.update S (Obj.mapSeq (·.push (Value.ref h.objs.size)))).get? b=some o:=fun b o hb e=>(get?_update_other _ _ (Ne.symm hb)).trans e
  have st':DiSt h' I d S (i+1) es.size ep:=by
   refine ⟨ok',ov',g0,g1,hit',.inr ?_⟩
   rcases hg with rfl|⟨a,oa,rfl,z2,z3,z4⟩
   ·exact ⟨h.objs.size,_,rfl,ht,ne_of_gt hlt,ne_of_gt hSl⟩
   ·rcases hf with y|⟨a',oa',y1,y2,y3,y4⟩
    ·rw [y] at z2;cases z2
    ·rw [y1] at z2
     have za:a'=a:=by unfold rawInt at z2;injection z2 with z2 _;exact Int.ofNat.inj z2
     subst za
     exact ⟨a',oa,rfl,hkp _ _ z4 z3,z4,y4⟩
  show wpAny _ A.in1 (updateSeq S (·.push (Value.ref h.objs.size)) >>= _) _ _ _;refine wpAny_bind ?_
  refine wpAny_updateSeq hS' rfl (wpAny_pure ⟨plainId_quiet PySem.F.plain_extend_loop _,ih (i+1) _ tk _ (acc.push (Value.ref h.objs.size)) (ts++[h.objs.size]) (by omega) hlt' (st'.keep up (Ne.symm hne)) (up d od hSd (hkp d od hId gd)) (fun b o h1 h2 e=>up b o h1 (hkp b o h2 (keep b o h1 h2 e)))
   (get?_update_self _ hS' rfl) (by rw [Array.toList_push,hacc,map_append];rfl) (by rw [length_append,hal];rfl) ⟨?_,?_,?_⟩ ?_⟩) (by rw [hsz];omega) (by show (acc.push (Value.ref h.objs.size)).size<=sizeLine+1;rw [Array.size_push,hsz];omega)
  ·refine List.pairwise_append.mpr ⟨hG.rise,List.pairwise_singleton _ _,fun a ha b hb=>?_⟩
   rw [mem_singleton.mp hb]
   obtain ⟨j,hj⟩:=List.mem_iff_getElem?.mp ha
   obtain ⟨_,_,z⟩:=hG.pairs j a hj
   exact lt_size z
  ·intro a ha
   rcases mem_append.mp ha with ha|ha
   ·exact hG.above a ha
   ·rw [mem_singleton.mp ha];exact hlt
  ·intro j b hj
   by_cases h1:j<ts.length
   ·rw [getElem?_append_left h1] at hj
    obtain ⟨e,e1,e2⟩:=hG.pairs j b hj
    have hb:=hG.above b (mem_of_getElem? hj)
    exact ⟨e,e1,up b _ (ne_of_gt (lt_trans hSI hb)) (hkp b _ (ne_of_gt hb) e2)⟩
   ·rw [getElem?_append_right (by omega)] at hj
    have hj0:j - ts.length=0:=by
     have:=(List.getElem?_eq_some_iff.mp hj).1
     rw [length_singleton] at this;omega
    rw [hj0] at hj
    cases hj
    exact ⟨es[i],by rw [show j=i by omega];exact hx,up _ _ (ne_of_gt hSl) ht⟩
  ·rw [(Heap.SameBut.update ..).1,hz];exact lt_succ_of_lt hlt
variable {E:Value->Shared->Prop} {r:Addr}
theorem di_call {Q:Value->Shared->Prop} (hh:A.handled=none) (hv:s.heap.IsItemsView r d) (gd:s.heap.get? d=some od) (dt:od.data=.dict es ep) (hn:es.size<=sizeLine)
  (hQ:∀h' tk acc c ts,(∀b o,s.heap.get? b=some o->h'.get? b=some o)->h'.get? s.heap.objs.size=some { cls:=.type "list",dict:=none,data:=.seq acc c,slots:=#[] }->ts.length=es.size->DG es s.heap.objs.size h' ts->acc.toList=ts.map Value.ref->Q (.ref s.heap.objs.size) { s with heap:=h',toks:=tk }):
  wpAny (model prog w) A (call (.type "list") [.ref r]) Q E s:=by
 refine callType_codes (Q₁:=fun obj s₁=>obj=.ref s.heap.objs.size/\s₁={ s with heap:=s.heap.push { cls:=.type "list",data:=.seq #[] } }) PySem.F.called_list (PySem.F.typeCall_list_1 _) PySem.F.entry_list_init (code_list_new _ ⟨rfl,rfl⟩) fun obj s₁ h₁=>?_
 obtain ⟨rfl,rfl⟩:=h₁
 have hS:(s.heap.push { cls:=.type "list",data:=.seq #[] }).get? s.heap.objs.size=some { cls:=.type "list",data:=.seq #[] }:=get?_push_size _ rfl
 have hrl:r<s.heap.objs.size:=let ⟨_,ho,_⟩:=hv;lt_size ho
 have hdl:d<s.heap.objs.size:=lt_size gd
 generalize hS0:s.heap.objs.size=S at hS hrl hdl
 have old:∀b o,s.heap.get? b=some o->b≠S:=fun b o e=>hS0▸ne_of_lt (lt_size e)
 refine ⟨⟨_,hS,rfl⟩,PySem.F.args_list_init_2 _ _,?_⟩
 show wpAny _ A.in1.in1 (do let old ←Builtin.List.listItems (.ref S);Builtin.List.listUpdate (.ref S) (fun _=>#[]);letGo old.toList.reverse;Builtin.List.listExtendWith (.ref S) (.ref r) .none) _ _ { s with heap:=s.heap.push { cls:=.type "list",data:=.seq #[] } }
 refine wpAny_bind ?_;unfold Builtin.List.listItems;refine wpAny_bind (wpAny_seqItems hS rfl (wpAny_pure ?_))
 show wpAny _ _ (updateSeq S (fun _=>#[]) >>= fun _=>letGo (#[]:Array Value).toList.reverse >>= fun _=>Builtin.List.listExtendWith (.ref S) (.ref r) .none) _ _ _;refine wpAny_bind (wpAny_updateSeq hS rfl ?_)
 have hS2:=get?_update_self (Obj.mapSeq (fun _=>(#[]:Array Value))) hS rfl
 have z2:((s.heap.push { cls:=.type "list",data:=.seq #[] }).update S (Obj.mapSeq (fun _=>(#[]:Array Value)))).objs.size=S+1:=by rw [(Heap.SameBut.update ..).1,size_push,hS0]
 have o2:∀b o,s.heap.get? b=some o->((s.heap.push { cls:=.type "list",data:=.seq #[] }).update S (Obj.mapSeq (fun _=>(#[]:Array Value)))).get? b=some o:=fun b o e=>(get?_update_other _ _ (Ne.symm (old b o e))).trans (get?_push_of_some _ e)
 generalize (s.heap.push { cls:=.type "list",data:=.seq #[] }).update S (Obj.mapSeq (fun _=>(#[]:Array Value)))=m at hS2 z2 o2
 refine wpAny_bind (wpAny_letGo ?_);unfold Builtin.List.listExtendWith
 have hv2:m.IsItemsView r d:=let ⟨o,ho,x⟩:=hv;⟨o,o2 _ _ ho,x⟩
 refine wpAny_bind (wpAny_typeOf (T := "dict_items") (s:={ s with heap:=m,toks:=_ }) hv2.typeIs ?_)
 simp only [show Builtin.List.listSameRef (.ref S) (.ref r)=false by simp [Builtin.List.listSameRef,ne_of_gt hrl],show (Value.type "dict_items" == Value.type "list")=false by decide,show (Value.type "dict_items" == Value.type "tuple")=false by decide,Bool.or_false,false_eq_true,if_false]
 refine wpAny_bind (di_iter (s:={ s with heap:=m,toks:=_ }) hv2 (o2 _ _ gd) dt ?_)
 have hS3:=get?_push_of_some { cls:=.type "dict_itemiterator",data:=.fields #[.none,.bool false,.ref d,.int 0 0,.int es.size 0,.int ep 0,.none,.none] } hS2
 have key:∀(h:Heap) (c₁ tk:Nat),(∀b o,b≠S->(m.push { cls:=.type "dict_itemiterator",data:=.fields #[.none,.bool false,.ref d,.int 0 0,.int es.size 0,.int ep 0,.none,.none] }).get? b=some o->h.get? b=some o)->h.get? S=some { cls:=.type "list",data:=.seq #[] c₁ }->
   codeAny (model prog w) A.in1 (.builtin "list.extend.loop" ⟨[.ref S,.ref m.objs.size,.none],[]⟩) (fun q s'=>q=.ok (.ret .none)/\Q (.ref S) s') { s with heap:=h,toks:=tk }:=fun h c₁ tk hk hS₁=>by
  have hSm:S<m.objs.size:=by rw [z2];exact lt_succ_self S
  have hdm:d<m.objs.size:=lt_trans hdl hSm
  have hI:=hk m.objs.size _ (ne_of_gt hSm) (get?_push_size _ rfl)
  refine di_loop (A:=A.in1) (prog:=prog) (w:=w) (R:=fun q s'=>q=.ok (.ret .none)/\Q (.ref S) s') (s:=s) (h₁:=s.heap) hh hSm (ne_of_lt hdl) (ne_of_lt hdm) dt hn .none (fun h' tk' acc c ts hk' hS' hl hG hacc=>⟨rfl,?_⟩) es.size 0 h tk c₁ #[] [] (Nat.sub_zero _) (zero_le _) ⟨.none,.none,.none,false,hI,.inl rfl⟩ (hk d od (ne_of_lt hdl) (get?_push_of_some _ (o2 _ _ gd)))
   (fun b o hb _ e=>hk b o hb (get?_push_of_some _ (o2 _ _ e))) hS₁ rfl rfl ⟨List.Pairwise.nil,(fun _ ha=>nomatch ha),(fun j a hj=>by simp at hj)⟩ (lt_size hI)
  subst hS0
  exact hQ h' tk' acc c ts (fun b o e=>hk' b o (old b o e) (ne_of_lt (lt_trans (lt_size e) hSm)) e) hS' hl ⟨hG.rise,fun a ha=>lt_trans hSm (hG.above a ha),hG.pairs⟩ hacc
 refine wpAny_bind (wpAny_holding (PySem.W.kdx_hint (let ⟨o,ho,hc,_⟩:=hv2;⟨o,get?_push_of_some _ ho,hc⟩) ?_))
 refine wpAny_ite_split (fun _=>?_) (fun _=>wpAny_pure ⟨plainId_quiet PySem.F.plain_extend_loop _,codeAny_mono (key _ _ _ (fun b o _ e=>e) hS3) fun q s' ⟨eq,z⟩=>by subst eq;exact ⟨rfl,z⟩⟩)
 refine wpAny_bind (wpAny_rule (wpAny_bind ?_));show wpAny _ _ (updateSeq S (·.push .none) >>= fun _=>updateSeq S (·.pop)) _ _ _;refine wpAny_bind (wpAny_updateSeq hS3 rfl ?_)
 have hS4:=get?_update_self (Obj.mapSeq (·.push Value.none)) hS3 rfl
 refine wpAny_updateSeq (hz:=by seq_fits) hS4 rfl ?_
 have hS5:=get?_update_self (Obj.mapSeq (·.pop)) hS4 rfl
 exact wpAny_pure ⟨plainId_quiet PySem.F.plain_extend_loop _,codeAny_mono (key _ _ _ (fun b o hb e=>(get?_update_other _ _ (Ne.symm hb)).trans ((get?_update_other _ _ (Ne.symm hb)).trans e)) hS5) fun q s' ⟨eq,z⟩=>by subst eq;exact ⟨rfl,z⟩⟩
end
end L2
namespace L3
open PySem PySem.Spec PyProof.Rows L2
structure Ct where
 K:Frag
 cls:String->Addr
 clo:Nat->Hp->Addr->List V->Prop
 cloM:∀{k:Nat} {H H':Hp} {a:Addr} {xs:List V},Same H H'->clo k H a xs->clo k H' a xs
 tb:Hp
def ctOf (K:Frag) (cls:String->Addr):Ct:=⟨K,cls,fun _ _ _ _=>False,fun _ h=>h,fun _=>none⟩
mutual
def Rep (Γ:Ct) (H:Hp):D->V->Prop
 | .non,v=>v=.non
 | .bl b,v=>v=.bl b
 | .int i,v=>v=.int i
 | .str x,v=>v=.str x
 | .tup ds,v=>∃a xs,v=.ref a/\SqT Γ.K H a xs/\RepL Γ H ds xs
 | .lst ds,v=>∃a xs,v=.ref a/\SqL Γ.K H a xs/\RepL Γ H ds xs
 | .obj c ns ds,v=>∃a dx xs,v=.ref a/\H a=some (.ins (Γ.cls c) dx (ns.zip xs))/\RepL Γ H ds xs
 | .fn k ds,v=>∃a xs,v=.ref a/\Γ.clo k H a xs/\RepL Γ H ds xs
def RepL (Γ:Ct) (H:Hp):List D->List V->Prop
 | [],xs=>xs=[]
 | d::ds,xs=>∃x r,xs=x::r/\Rep Γ H d x/\RepL Γ H ds r
end
theorem a1P {K:Frag} {H H':Hp} {a:Addr} {xs:List V} (e:Same H H') (h:SqT K H a xs):SqT K H' a xs:=by
 rcases h with (h|⟨o,h⟩)|h
 ·exact .inl (.inl (e _ _ h))
 ·exact .inl (.inr ⟨o,e _ _ h⟩)
 ·exact .inr h
mutual
theorem Rep.mono {Γ:Ct} {H H':Hp} (e:Same H H'):∀{d:D} {v:V},Rep Γ H d v->Rep Γ H' d v
 | .non,_,r=>by unfold Rep at r ⊢;exact r
 | .bl _,_,r=>by unfold Rep at r ⊢;exact r
 | .int _,_,r=>by unfold Rep at r ⊢;exact r
 | .str _,_,r=>by unfold Rep at r ⊢;exact r
 | .tup ds,_,r=>by
  unfold Rep at r ⊢
  obtain ⟨a,xs,e1,q,r⟩:=r
  exact ⟨a,xs,e1,a1P e q,RepL.mono e r⟩
 | .lst ds,_,r=>by
  unfold Rep at r ⊢
  obtain ⟨a,xs,e1,q,r⟩:=r
  exact ⟨a,xs,e1,Same.seq e q,RepL.mono e r⟩
 | .obj c ns ds,_,r=>by
  unfold Rep at r ⊢
  obtain ⟨a,dx,xs,e1,q,r⟩:=r
  exact ⟨a,dx,xs,e1,e _ _ q,RepL.mono e r⟩
 | .fn k ds,_,r=>by
  unfold Rep at r ⊢
  obtain ⟨a,xs,e1,q,r⟩:=r
  exact ⟨a,xs,e1,Γ.cloM e q,RepL.mono e r⟩
theorem RepL.mono {Γ:Ct} {H H':Hp} (e:Same H H'):∀{ds:List D} {xs:List V},RepL Γ H ds xs->RepL Γ H' ds xs
 | [],_,r=>by unfold RepL at r ⊢;exact r
 | d::ds,_,r=>by
  unfold RepL at r ⊢
  obtain ⟨x,r',e1,q,r2⟩:=r
  exact ⟨x,r',e1,Rep.mono e q,RepL.mono e r2⟩
end
section
variable {Γ:Ct} {H H':Hp}
theorem a2i {v:V}:Rep Γ H .non v↔v=.non:=by unfold Rep;exact Iff.rfl
theorem a0D {b:Bool} {v:V}:Rep Γ H (.bl b) v↔v=.bl b:=by unfold Rep;exact Iff.rfl
theorem a0m {i:Int} {v:V}:Rep Γ H (.int i) v↔v=.int i:=by unfold Rep;exact Iff.rfl
theorem a1L {x:Str} {v:V}:Rep Γ H (.str x) v↔v=.str x:=by unfold Rep;exact Iff.rfl
theorem a1k {ds:List D} {v:V}:Rep Γ H (.tup ds) v↔∃a xs,v=.ref a/\SqT Γ.K H a xs/\RepL Γ H ds xs:=by
 constructor
 ·intro h;unfold Rep at h;exact h
 ·intro h;unfold Rep;exact h
theorem a1M {ds:List D} {v:V}:Rep Γ H (.lst ds) v↔∃a xs,v=.ref a/\SqL Γ.K H a xs/\RepL Γ H ds xs:=by
 constructor
 ·intro h;unfold Rep at h;exact h
 ·intro h;unfold Rep;exact h
theorem a5Y {c:String} {ns:List Str} {ds:List D} {v:V}:Rep Γ H (.obj c ns ds) v↔∃a dx xs,v=.ref a/\H a=some (.ins (Γ.cls c) dx (ns.zip xs))/\RepL Γ H ds xs:=by
 constructor
 ·intro h;unfold Rep at h;exact h
 ·intro h;unfold Rep;exact h
theorem b57 {k:Nat} {ds:List D} {v:V}:Rep Γ H (.fn k ds) v↔∃a xs,v=.ref a/\Γ.clo k H a xs/\RepL Γ H ds xs:=by
 constructor
 ·intro h;unfold Rep at h;exact h
 ·intro h;unfold Rep;exact h
theorem a2Q {xs:List V}:RepL Γ H [] xs↔xs=[]:=by unfold RepL;exact Iff.rfl
theorem a03 {d:D} {ds:List D} {xs:List V}:RepL Γ H (d::ds) xs↔∃x r,xs=x::r/\Rep Γ H d x/\RepL Γ H ds r:=by
 constructor
 ·intro h;unfold RepL at h;exact h
 ·intro h;unfold RepL;exact h
theorem RepL.nil:RepL Γ H [] []:=a2Q.mpr rfl
theorem RepL.cons {d:D} {ds:List D} {x:V} {xs:List V} (h:Rep Γ H d x) (t:RepL Γ H ds xs):RepL Γ H (d::ds) (x::xs):=a03.mpr ⟨x,xs,rfl,h,t⟩
theorem RepL.length:∀{ds:List D} {xs:List V},RepL Γ H ds xs->ds.length=xs.length
 | [],xs,h=>by rw [a2Q.mp h];rfl
 | d::ds,xs,h=>by
  obtain ⟨x,r,e,_,t⟩:=a03.mp h
  rw [e,length_cons,length_cons,RepL.length t]
theorem RepL.append:∀{ds es:List D} {xs ys:List V},RepL Γ H ds xs->RepL Γ H es ys->RepL Γ H (ds++es) (xs++ys)
 | [],es,xs,ys,h,h'=>by rw [a2Q.mp h];exact h'
 | d::ds,es,xs,ys,h,h'=>by
  obtain ⟨x,r,e,q,t⟩:=a03.mp h
  rw [e]
  exact .cons q (RepL.append t h')
theorem RepL.get:∀{ds:List D} {xs:List V} {i:Nat} {d:D},RepL Γ H ds xs->ds[i]?=some d->∃x,xs[i]?=some x/\Rep Γ H d x
 | [],xs,i,d,h,e=>by simp at e
 | d::ds,xs,0,d',h,e=>by
  obtain ⟨x,r,e1,q,t⟩:=a03.mp h
  simp at e
  subst e e1
  exact ⟨x,rfl,q⟩
 | d::ds,xs,i+1,d',h,e=>by
  obtain ⟨x,r,e1,q,t⟩:=a03.mp h
  obtain ⟨y,e2,q2⟩:=RepL.get (i:=i) t (by simpa using e)
  subst e1
  exact ⟨y,by simpa using e2,q2⟩
theorem RepL.take:∀{ds:List D} {xs:List V} (n:Nat),RepL Γ H ds xs->RepL Γ H (ds.take n) (xs.take n)
 | _,_,0,_=>.nil
 | [],xs,n+1,h=>by rw [a2Q.mp h];exact .nil
 | d::ds,xs,n+1,h=>by
  obtain ⟨x,r,e,q,t⟩:=a03.mp h
  subst e
  exact .cons q (RepL.take n t)
theorem RepL.drop:∀{ds:List D} {xs:List V} (n:Nat),RepL Γ H ds xs->RepL Γ H (ds.drop n) (xs.drop n)
 | _,_,0,h=>h
 | [],xs,n+1,h=>by rw [a2Q.mp h];exact .nil
 | d::ds,xs,n+1,h=>by
  obtain ⟨x,r,e,q,t⟩:=a03.mp h
  subst e
  exact RepL.drop n t
theorem RepL.rep {ds:List D} {xs:List V} (h:RepL Γ H ds xs):∀k:Nat,RepL Γ H (replicate k ds).flatten (replicate k xs).flatten
 | 0=>.nil
 | k+1=>by
  rw [replicate_succ,replicate_succ,flatten_cons,flatten_cons]
  exact h.append (RepL.rep h k)
theorem RepL.set {d:D} {x:V} (q:Rep Γ H d x):∀{ds:List D} {xs:List V} (i:Nat),RepL Γ H ds xs->RepL Γ H (ds.set i d) (xs.set i x)
 | [],xs,i,h=>by rw [a2Q.mp h];exact .nil
 | e::ds,xs,0,h=>by
  obtain ⟨y,r,e1,_,t⟩:=a03.mp h
  subst e1
  exact .cons q t
 | e::ds,xs,i+1,h=>by
  obtain ⟨y,r,e1,q1,t⟩:=a03.mp h
  subst e1
  exact .cons q1 (RepL.set q i t)
theorem RepL.ints:∀(ns:List Int),RepL Γ H (ns.map D.int) (ns.map V.int)
 | []=>.nil
 | n::ns=>.cons (a0m.mpr rfl) (RepL.ints ns)
theorem RepL.intsOf:∀{ds:List D} {xs:List V} {ns:List Int},RepL Γ H ds xs->intsOf ds=some ns->xs=ns.map V.int
 | [],xs,ns,h,e=>by
  cases e
  exact a2Q.mp h
 | .int i::ds,xs,ns,h,e=>by
  obtain ⟨x,r,e1,q,t⟩:=a03.mp h
  unfold L3.intsOf at e
  cases e2:L3.intsOf ds with
  | none=>rw [e2] at e;cases e
  | some ms=>
   rw [e2] at e
   cases e
   rw [e1,a0m.mp q,RepL.intsOf t e2,map_cons]
 | .non::ds,xs,ns,h,e=>by cases e
 | .bl _::ds,xs,ns,h,e=>by cases e
 | .str _::ds,xs,ns,h,e=>by cases e
 | .tup _::ds,xs,ns,h,e=>by cases e
 | .lst _::ds,xs,ns,h,e=>by cases e
 | .fn _ _::ds,xs,ns,h,e=>by cases e
 | .obj _ _ _::ds,xs,ns,h,e=>by cases e
theorem RepL.blsOf:∀{ds:List D} {xs:List V} {ns:List Bool},RepL Γ H ds xs->blsOf ds=some ns->xs=ns.map V.bl
 | [],xs,ns,h,e=>by
  cases e
  exact a2Q.mp h
 | .bl i::ds,xs,ns,h,e=>by
  obtain ⟨x,r,e1,q,t⟩:=a03.mp h
  unfold L3.blsOf at e
  cases e2:L3.blsOf ds with
  | none=>rw [e2] at e;cases e
  | some ms=>
   rw [e2] at e
   cases e
   rw [e1,a0D.mp q,RepL.blsOf t e2,map_cons]
 | .non::ds,xs,ns,h,e=>by cases e
 | .int _::ds,xs,ns,h,e=>by cases e
 | .str _::ds,xs,ns,h,e=>by cases e
 | .tup _::ds,xs,ns,h,e=>by cases e
 | .lst _::ds,xs,ns,h,e=>by cases e
 | .fn _ _::ds,xs,ns,h,e=>by cases e
 | .obj _ _ _::ds,xs,ns,h,e=>by cases e
theorem rep_flat {d:D} {v:V} (h:Rep Γ H d v) (f:flat d=true):Rep Γ H' d v:=by
 cases d with
 | non=>exact a2i.mpr (a2i.mp h)
 | bl _=>exact a0D.mpr (a0D.mp h)
 | int _=>exact a0m.mpr (a0m.mp h)
 | str _=>exact a1L.mpr (a1L.mp h)
 | tup _=>cases f
 | lst _=>cases f
 | fn _ _=>cases f
 | obj _ _ _=>cases f
end
def RepO (Γ:Ct) (Hs:Hp):O->HO->Prop
 | .lst ds,ho=>∃xs,ho=.lst xs/\RepL Γ Hs ds xs
 | .obj c ns ds,ho=>∃dx xs,ho=.ins (Γ.cls c) dx (ns.zip xs)/\RepL Γ Hs ds xs
 | .dic _,_=>False
 | .par _ _,_=>False
 | .fdic _,_=>False
 | .tab _,_=>False
def kvT (kvs:List (List Int×Int)):List (List Key×V):=kvs.map fun p=>(p.1.map Sum.inl,V.int p.2)
def TabR (Γ:Ct) (H:Hp) (kvs:List (D×D)) (xs:List (D×Addr×Value)):Prop:=Paired (fun p q=>p.1=q.1/\okT p.1=true/\Rep Γ H p.1 (.ref q.2.1)/\∃v,RelV v q.2.2/\Rep Γ H p.2 v) kvs xs
theorem TabR.mono {Γ:Ct} {H H':Hp} (e:Same H H') {kvs:List (D×D)} {xs:List (D×Addr×Value)} (h:TabR Γ H kvs xs):TabR Γ H' kvs xs:=Paired.mapP h fun p q ⟨h1,h2,h3,v,h4,h5⟩=>⟨h1,h2,h3.mono e,v,h4,h5.mono e⟩
def RepW (Γ:Ct) (Hs:Hp) (a:Addr):O->HO->Prop
 | .lst ds,ho=>∃xs,ho=.lst xs/\RepL Γ Hs ds xs
 | .obj c ns ds,ho=>∃dx xs,ho=.ins (Γ.cls c) dx (ns.zip xs)/\RepL Γ Hs ds xs
 | .dic kvs,ho=>ho=.dT (kvT kvs)
 | .par b o,ho=>a=b/\RepW Γ Hs a o ho
 | .fdic kvs,ho=>∃ob,ho=.frz ob (.dT (kvT kvs))
 | .tab kvs,ho=>∃xs,ho=.ext (a6S a xs)/\TabR Γ Hs kvs xs
theorem RepO.w {Γ:Ct} {H:Hp} {o:O} {ho:HO} {a:Addr} (h:RepO Γ H o ho):RepW Γ H a o ho:=by
 cases o with
 | lst ds=>exact h
 | obj c ns ds=>exact h
 | dic _=>exact h.elim
 | par _ _=>exact h.elim
 | fdic _=>exact h.elim
 | tab _=>exact h.elim
theorem RepW.o {Γ:Ct} {H:Hp} {o:O} {ho:HO} {a:Addr} (h:RepW Γ H a o ho) (n:∀kvs,o≠.dic kvs) (n2:∀b u,o≠.par b u) (n3:∀kvs,o≠.fdic kvs) (n4:∀kvs,o≠.tab kvs):RepO Γ H o ho:=by
 cases o with
 | lst ds=>exact h
 | obj c ns ds=>exact h
 | dic kvs=>exact (n kvs rfl).elim
 | par b u=>exact (n2 b u rfl).elim
 | fdic kvs=>exact (n3 kvs rfl).elim
 | tab kvs=>exact (n4 kvs rfl).elim
theorem RepW.mono {Γ:Ct} {H H':Hp} (e:Same H H') {a:Addr}:∀{o:O} {ho:HO},RepW Γ H a o ho->RepW Γ H' a o ho
 | .lst ds,_,h=>by obtain ⟨xs,e1,r⟩:=h;exact ⟨xs,e1,r.mono e⟩
 | .obj c ns ds,_,h=>by obtain ⟨dx,xs,e1,r⟩:=h;exact ⟨dx,xs,e1,r.mono e⟩
 | .dic _,_,h=>h
 | .par b o,_,h=>⟨h.1,RepW.mono e h.2⟩
 | .fdic _,_,h=>h
 | .tab _,_,h=>by obtain ⟨xs,e1,r⟩:=h;exact ⟨xs,e1,r.mono e⟩
theorem RepO.mono {Γ:Ct} {H H':Hp} (e:Same H H') {o:O} {ho:HO} (h:RepO Γ H o ho):RepO Γ H' o ho:=by
 cases o with
 | dic _=>exact h.elim
 | par _ _=>exact h.elim
 | fdic _=>exact h.elim
 | tab _=>exact h.elim
 | lst ds=>obtain ⟨xs,e1,r⟩:=h;exact ⟨xs,e1,r.mono e⟩
 | obj c ns ds=>obtain ⟨dx,xs,e1,r⟩:=h;exact ⟨dx,xs,e1,r.mono e⟩
theorem RepO.val {Γ:Ct} {H:Hp} {o:O} {ho:HO} {a:Addr} (h:RepO Γ H o ho) (e:H a=some ho):Rep Γ H o.val (.ref a):=by
 cases o with
 | dic _=>exact h.elim
 | par _ _=>exact h.elim
 | fdic _=>exact h.elim
 | tab _=>exact h.elim
 | lst ds=>obtain ⟨xs,e1,r⟩:=h;subst e1;exact a1M.mpr ⟨a,xs,rfl,.of e,r⟩
 | obj c ns ds=>obtain ⟨dx,xs,e1,r⟩:=h;subst e1;exact a5Y.mpr ⟨a,dx,xs,rfl,e,r⟩
structure Grow (Hs H Hs' H':Hp):Prop where
 s:Same Hs Hs'
 h:Same H H'
 i:Same Hs' H'
 n:∀b o,Hs' b=some o->Hs b=some o\/H b=none
theorem Grow.refl {Hs H:Hp} (e:Same Hs H):Grow Hs H Hs H:=⟨.refl _,.refl _,e,fun _ _ q=>.inl q⟩
theorem Grow.trans {Hs H Hs1 H1 Hs2 H2:Hp} (a:Grow Hs H Hs1 H1) (b:Grow Hs1 H1 Hs2 H2):Grow Hs H Hs2 H2:=
 ⟨a.s.trans b.s,a.h.trans b.h,b.i,fun c o q=>(b.n c o q).elim (fun z=>a.n c o z) fun z=>.inr (a.h.free z)⟩
theorem Grow.only {Hs H H':Hp} (e:Same Hs H) (k:Same H H'):Grow Hs H Hs H':=⟨.refl _,k,e.trans k,fun _ _ q=>.inl q⟩
theorem a1E {H:Hp} {p:Addr} {o:HO} (h:H p=none):Same H (upd H p o):=fun b u e=>by rw [a0J (a0C e h)];exact e
theorem Grow.new {Hs H:Hp} {p:Addr} {o:HO} (e:Same Hs H) (h:H p=none):Grow Hs H (upd Hs p o) (upd H p o):=
 ⟨a1E (e.free h),a1E h,fun b u q=>by
  by_cases hb:b=p
  ·subst hb;rw [a0O] at q ⊢;exact q
  ·rw [a0J hb] at q ⊢;exact e _ _ q,fun b u q=>by
  by_cases hb:b=p
  ·subst hb;exact .inr h
  ·rw [a0J hb] at q;exact .inl q⟩
theorem Grow.newOwn {Hs H:Hp} {p:Addr} {o:HO} (e:Same Hs H) (h:H p=none):Grow Hs H Hs (upd H p o):=.only e (a1E h)
theorem Grow.share {Hs H Hs' H':Hp} {a:Addr} {ho:HO} (g:Grow Hs H Hs' H') (h0:H a=none) (h1:Hs' a=none) (h2:H' a=some ho):Grow Hs H (upd Hs' a ho) H'/\Same Hs' (upd Hs' a ho):=
 ⟨⟨g.s.trans (a1E h1),g.h,fun b u q=>by
  by_cases hb:b=a
  ·subst hb;rw [a0O] at q;cases q;exact h2
  ·rw [a0J hb] at q;exact g.i _ _ q,fun b u q=>by
  by_cases hb:b=a
  ·subst hb;exact .inr h0
  ·rw [a0J hb] at q;exact g.n _ _ q⟩,a1E h1⟩
inductive RepN (Γ:Ct) (H Hs' H':Hp) (o:O) (v:V):Prop
 | mk (a:Addr) (ho:HO) (ev:v=.ref a) (h0:H a=none) (h1:Hs' a=none) (h2:H' a=some ho) (q:RepO Γ Hs' o ho)
def RepS (Γ:Ct) (H Hs' H':Hp):S->V->Prop
 | .sh d,v=>Rep Γ Hs' d v
 | .own o,v=>RepN Γ H Hs' H' o v
 | .two d a o,v=>Rep Γ Hs' d v/\∃ho,Hs' a=none/\H' a=some ho/\RepW Γ Hs' a o ho
theorem RepS.of {Γ:Ct} {H Hs' H':Hp} {d:D} {v:V} (h:Rep Γ Hs' d v):RepS Γ H Hs' H' (.sh d) v:=h
theorem RepS.share {Γ:Ct} {Hs H Hs' H':Hp} {s:S} {v:V} (g:Grow Hs H Hs' H') (r:RepS Γ H Hs' H' s v):∃Hs'',Grow Hs H Hs'' H'/\Same Hs' Hs''/\Rep Γ Hs'' s.val v:=by
 cases s with
 | sh d=>exact ⟨Hs',g,.refl _,r⟩
 | own o=>
  obtain ⟨a,ho,rfl,h0,h1,h2,q⟩:=r
  obtain ⟨g',e⟩:=g.share h0 h1 h2
  exact ⟨_,g',e,(q.mono e).val a0O⟩
 | two d a o=>exact ⟨Hs',g,.refl _,r.1⟩
theorem RepS.look {Γ:Ct} {Hs H Hs' H':Hp} {s:S} {v:V} (g:Grow Hs H Hs' H') (r:RepS Γ H Hs' H' s v):Rep Γ H' s.val v:=by
 cases s with
 | sh d=>exact Rep.mono g.i r
 | own o=>
  obtain ⟨a,ho,rfl,h0,h1,h2,q⟩:=r
  exact (q.mono g.i).val h2
 | two d a o=>exact Rep.mono g.i r.1
theorem RepS.back {Γ:Ct} {H H1 Hs' H':Hp} {s:S} {v:V} (k:Same H H1) (r:RepS Γ H1 Hs' H' s v):RepS Γ H Hs' H' s v:=by
 cases s with
 | sh d=>exact r
 | own o=>
  obtain ⟨a,ho,e,h0,h1,h2,q⟩:=r
  exact ⟨a,ho,e,k.free h0,h1,h2,q⟩
 | two d a o=>exact r
inductive OwnAt (Γ:Ct) (B1 Hs H:Hp) (x:Option (Option V)) (o:O):Prop
 | mk (a:Addr) (ho:HO) (e1:x=some (some (.ref a))) (e2:B1 a=none) (e3:Hs a=none) (e4:H a=some ho) (q:RepW Γ Hs a o ho)
structure RE (Γ:Ct) (B0 B1 Hs H:Hp) (σ:L2.St) (ρ:MEnv):Prop where
 b:Grow B0 B1 Hs H
 sh:∀(i:Nat) (d:D),ρ[i]?=some (some (.sh d))->∃v,σ[i]?=some (some v)/\Rep Γ Hs d v
 own:∀(i:Nat) (o:O),ρ[i]?=some (some (.own o))->OwnAt Γ B1 Hs H σ[i]? o
 apart:∀(i j:Nat) (o u:O) (a:Addr),i≠j->ρ[i]?=some (some (.own o))->ρ[j]?=some (some (.own u))->σ[i]?=some (some (.ref a))->σ[j]?≠some (some (.ref a))
 len:ρ.length=σ.length
 tb:Same Γ.tb Hs
section
variable {Γ:Ct} {B0 B1 Hs H Hs' H':Hp} {σ:L2.St} {ρ:MEnv}
theorem RE.grow (r:RE Γ B0 B1 Hs H σ ρ) (g:Grow Hs H Hs' H'):RE Γ B0 B1 Hs' H' σ ρ where
 tb:=r.tb.trans g.s
 b:=r.b.trans g
 sh:=fun i d e=>let ⟨v,e1,q⟩:=r.sh i d e;⟨v,e1,q.mono g.s⟩
 own:=fun i o e=>by
  obtain ⟨a,ho,e1,e2,e3,e4,q⟩:=r.own i o e
  refine ⟨a,ho,e1,e2,?_,g.h _ _ e4,q.mono g.s⟩
  cases z:Hs' a with
  | none=>rfl
  | some u=>
   rcases g.n a u z with z'|z'
   ·rw [e3] at z';cases z'
   ·rw [e4] at z';cases z'
 apart:=r.apart
 len:=r.len
theorem RE.setSh (r:RE Γ B0 B1 Hs H σ ρ) {i:Nat} {d:D} {v:V} (hi:i<σ.length) (q:Rep Γ Hs d v):RE Γ B0 B1 Hs H (σ.set i (some v)) (ρ.set i (some (.sh d))) where
 tb:=r.tb
 b:=r.b
 sh:=fun j e hj=>by
  by_cases h:i=j
  ·subst h
   rw [getElem?_set_self (by rw [r.len];exact hi)] at hj
   cases hj
   exact ⟨v,getElem?_set_self hi,q⟩
  ·rw [getElem?_set_ne h] at hj ⊢
   exact r.sh j e hj
 own:=fun j o hj=>by
  by_cases h:i=j
  ·subst h
   rw [getElem?_set_self (by rw [r.len];exact hi)] at hj
   cases hj
  ·rw [getElem?_set_ne h] at hj ⊢
   exact r.own j o hj
 apart:=fun j k o u a hjk hj hk ha=>by
  have n1:i≠j:=fun z=>by subst z;rw [getElem?_set_self (by rw [r.len];exact hi)] at hj;cases hj
  have n2:i≠k:=fun z=>by subst z;rw [getElem?_set_self (by rw [r.len];exact hi)] at hk;cases hk
  rw [getElem?_set_ne n1] at hj ha
  rw [getElem?_set_ne n2] at hk ⊢
  exact r.apart j k o u a hjk hj hk ha
 len:=by rw [length_set,length_set,r.len]
theorem RE.setOwn (r:RE Γ B0 B1 Hs H σ ρ) {i:Nat} {o:O} {a:Addr} {ho:HO} (hi:i<σ.length) (b1:B1 a=none) (h1:Hs a=none) (h2:H a=some ho) (q:RepW Γ Hs a o ho)
  (new:∀(j:Nat) (u:O),j≠i->ρ[j]?=some (some (.own u))->σ[j]?≠some (some (.ref a))):RE Γ B0 B1 Hs H (σ.set i (some (.ref a))) (ρ.set i (some (.own o))) where
 tb:=r.tb
 b:=r.b
 sh:=fun j e hj=>by
  by_cases h:i=j
  ·subst h
   rw [getElem?_set_self (by rw [r.len];exact hi)] at hj
   cases hj
  ·rw [getElem?_set_ne h] at hj ⊢
   exact r.sh j e hj
 own:=fun j u hj=>by
  by_cases h:i=j
  ·subst h
   rw [getElem?_set_self (by rw [r.len];exact hi)] at hj
   cases hj
   exact ⟨a,ho,getElem?_set_self hi,b1,h1,h2,q⟩
  ·rw [getElem?_set_ne h] at hj ⊢
   exact r.own j u hj
 apart:=fun j k u u' c hjk hj hk ha=>by
  by_cases hij:i=j
  ·subst hij
   rw [getElem?_set_self hi] at ha
   cases ha
   rw [getElem?_set_ne hjk] at hk ⊢
   exact new k u' (Ne.symm hjk) hk
  ·rw [getElem?_set_ne hij] at hj ha
   by_cases hik:i=k
   ·subst hik
    rw [getElem?_set_self hi]
    intro z
    cases z
    exact new j u (Ne.symm hij) hj ha
   ·rw [getElem?_set_ne hik] at hk ⊢
    exact r.apart j k u u' c hjk hj hk ha
 len:=by rw [length_set,length_set,r.len]
theorem RE.setS (r:RE Γ B0 B1 Hs H σ ρ) (g:Grow Hs H Hs' H') {i:Nat} {s:S} {v:V} (hi:i<σ.length) (q:RepS Γ H Hs' H' s v):RE Γ B0 B1 Hs' H' (σ.set i (some v)) (ρ.set i (some s)):=by
 cases s with
 | sh d=>exact (r.grow g).setSh hi q
 | own o=>
  obtain ⟨a,ho,rfl,h0,h1,h2,q⟩:=q
  refine (r.grow g).setOwn hi (r.b.h.free h0) h1 h2 q.w fun j u _ hj z=>?_
  obtain ⟨c,hc,e1,_,_,e4,_⟩:=r.own j u hj
  rw [z] at e1
  cases e1
  rw [h0] at e4
  cases e4
 | two d a o=>
  have r1:=(r.grow g).setSh hi q.1
  have key:∀(j:Nat) (s:S),(∀d a o,s≠.two d a o)->(ρ.set i (some (.two d a o)))[j]?=some (some s)->(ρ.set i (some (.sh d)))[j]?=some (some s):=fun j s hn hj=>by
   by_cases h:i=j
   ·subst h
    rw [getElem?_set_self (by rw [r.len];exact hi)] at hj
    cases hj
    exact (hn _ _ _ rfl).elim
   ·rw [getElem?_set_ne h] at hj ⊢
    exact hj
  exact ⟨r1.b,fun j e hj=>r1.sh j e (key j _ (fun _ _ _ z=>nomatch z) hj),fun j u hj=>r1.own j u (key j _ (fun _ _ _ z=>nomatch z) hj),fun j k u u' c hjk hj hk ha=>r1.apart j k u u' c hjk (key j _ (fun _ _ _ z=>nomatch z) hj) (key k _ (fun _ _ _ z=>nomatch z) hk) ha,by rw [length_set,length_set,r.len],r1.tb⟩
theorem RE.write (r:RE Γ B0 B1 Hs H σ ρ) {i:Nat} {o o':O} {a:Addr} {ho':HO} (e:ρ[i]?=some (some (.own o))) (ea:σ[i]?=some (some (.ref a))) (q:RepW Γ Hs a o' ho'):RE Γ B0 B1 Hs (upd H a ho') σ (ρ.set i (some (.own o'))):=by
 obtain ⟨c,ho,e1,e2,e3,e4,_⟩:=r.own i o e
 rw [ea] at e1
 cases e1
 have hi:i<ρ.length:=(List.getElem?_eq_some_iff.mp e).1
 refine ⟨⟨r.b.s,fun b u z=>?_,fun b u z=>?_,r.b.n⟩,fun j d hj=>?_,fun j u hj=>?_,fun j k u u' c hjk hj hk ha=>?_,by rw [length_set,r.len],r.tb⟩
 ·rw [a0J (a0C z e2)];exact r.b.h _ _ z
 ·rw [a0J (a0C z e3)];exact r.b.i _ _ z
 ·by_cases h:i=j
  ·subst h
   rw [getElem?_set_self hi] at hj
   cases hj
  ·rw [getElem?_set_ne h] at hj
   exact r.sh j d hj
 ·by_cases h:i=j
  ·subst h
   rw [getElem?_set_self hi] at hj
   cases hj
   exact ⟨a,ho',ea,e2,e3,a0O,q⟩
  ·rw [getElem?_set_ne h] at hj
   obtain ⟨c,hc,f1,f2,f3,f4,f5⟩:=r.own j u hj
   refine ⟨c,hc,f1,f2,f3,?_,f5⟩
   rw [a0J]
   ·exact f4
   ·intro z
    subst z
    exact r.apart i j o u c h e hj ea f1
 ·have old:∀(m:Nat) (u:O),(ρ.set i (some (.own o')))[m]?=some (some (.own u))->∃u',ρ[m]?=some (some (.own u')):=fun m u hm=>by
   by_cases h:i=m
   ·subst h;exact ⟨o,e⟩
   ·rw [getElem?_set_ne h] at hm;exact ⟨u,hm⟩
  obtain ⟨x,hx⟩:=old j u hj
  obtain ⟨y,hy⟩:=old k u' hk
  exact r.apart j k x y c hjk hx hy ha
theorem RE.dem (r:RE Γ B0 B1 Hs H σ ρ) (i:Nat):∃Hs',Same Hs Hs'/\RE Γ B0 B1 Hs' H σ (dem i ρ):=by
 unfold L3.dem
 split
 ·exact ⟨Hs,.refl _,r⟩
 ·exact ⟨Hs,.refl _,r⟩
 ·exact ⟨Hs,.refl _,r⟩
 ·exact ⟨Hs,.refl _,r⟩
 ·rename_i o hno hno2 hno3 hno4 e
  obtain ⟨a,ho,e1,e2,e3,e4,q⟩:=r.own i o e
  have q:=q.o (fun kvs z=>by subst z;exact hno kvs rfl) (fun b u z=>by subst z;exact hno2 b u rfl) (fun kvs z=>by subst z;exact hno3 kvs rfl) fun kvs z=>by subst z;exact hno4 kvs rfl
  have hi:i<ρ.length:=(List.getElem?_eq_some_iff.mp e).1
  have sm:Same Hs (upd Hs a ho):=a1E e3
  have sh':Same (upd Hs a ho) H:=fun b u z=>by
   by_cases hb:b=a
   ·subst hb;rw [a0O] at z;cases z;exact e4
   ·rw [a0J hb] at z;exact r.b.i _ _ z
  refine ⟨upd Hs a ho,sm,⟨⟨r.b.s.trans sm,r.b.h,sh',fun b u z=>?_⟩,fun j d hj=>?_,fun j u hj=>?_,fun j k u u' c hjk hj hk ha=>?_,by rw [length_set,r.len],r.tb.trans sm⟩⟩
  ·by_cases hb:b=a
   ·subst hb;exact .inr e2
   ·rw [a0J hb] at z;exact r.b.n _ _ z
  ·by_cases h:i=j
   ·subst h
    rw [getElem?_set_self hi] at hj
    cases hj
    exact ⟨.ref a,e1,(q.mono sm).val a0O⟩
   ·rw [getElem?_set_ne h] at hj
    obtain ⟨v,f1,f2⟩:=r.sh j d hj
    exact ⟨v,f1,f2.mono sm⟩
  ·by_cases h:i=j
   ·subst h
    rw [getElem?_set_self hi] at hj
    cases hj
   ·rw [getElem?_set_ne h] at hj
    obtain ⟨c,hc,f1,f2,f3,f4,f5⟩:=r.own j u hj
    refine ⟨c,hc,f1,f2,?_,f4,f5.mono sm⟩
    rw [a0J]
    ·exact f3
    ·intro z
     subst z
     exact r.apart i j o u c h e hj e1 f1
  ·have n1:i≠j:=fun z=>by subst z;rw [getElem?_set_self hi] at hj;cases hj
   have n2:i≠k:=fun z=>by subst z;rw [getElem?_set_self hi] at hk;cases hk
   rw [getElem?_set_ne n1] at hj
   rw [getElem?_set_ne n2] at hk
   exact r.apart j k u u' c hjk hj hk ha
 ·exact ⟨Hs,.refl _,r⟩
end
abbrev XW:=D->Hp->Hp->Prop
def RQ (Γ:Ct) (W:XW) (Hs H:Hp) (r:R) (Q:VK):Prop:=match r with
 | .ok s=>∀v Hs' H',Grow Hs H Hs' H'->RepS Γ H Hs' H' s v->Q v H'
 | .exc x=>∀Hs' H',Grow Hs H Hs' H'->W x Hs' H'
def RL (Γ:Ct) (W:XW) (Hs H:Hp) (r:R) (Q:VK):Prop:=match r with
 | .ok s=>∀v Hs' H',Grow Hs H Hs' H'->Rep Γ H' s.val v->Q v H'
 | .exc x=>∀Hs' H',Grow Hs H Hs' H'->W x Hs' H'
def RB (W:XW) (Hs H:Hp) (r:R) (Q:Bool->Hp->Prop):Prop:=match r with
 | .ok s=>∃b,s.val=.bl b/\∀Hs' H',Grow Hs H Hs' H'->Q b H'
 | .exc x=>∀Hs' H',Grow Hs H Hs' H'->W x Hs' H'
section
variable {Γ:Ct} {W:XW} {Hs H Hs1 H1:Hp} {r:R} {Q Q':VK}
theorem RQ.grow (q:RQ Γ W Hs H r Q) (g:Grow Hs H Hs1 H1):RQ Γ W Hs1 H1 r Q:=by
 cases r with
 | ok s=>exact fun v Hs' H' g' rs=>q v Hs' H' (g.trans g') (rs.back g.h)
 | exc x=>exact fun Hs' H' g'=>q Hs' H' (g.trans g')
theorem RQ.mono (q:RQ Γ W Hs H r Q) (h:∀v H,Q v H->Q' v H):RQ Γ W Hs H r Q':=by
 cases r with
 | ok s=>exact fun v Hs' H' g' rs=>h _ _ (q v Hs' H' g' rs)
 | exc x=>exact q
theorem RL.mono (q:RL Γ W Hs H r Q) (h:∀v H,Q v H->Q' v H):RL Γ W Hs H r Q':=by
 cases r with
 | ok s=>exact fun v Hs' H' g' rs=>h _ _ (q v Hs' H' g' rs)
 | exc x=>exact q
theorem RL.grow (q:RL Γ W Hs H r Q) (g:Grow Hs H Hs1 H1):RL Γ W Hs1 H1 r Q:=by
 cases r with
 | ok s=>exact fun v Hs' H' g' rs=>q v Hs' H' (g.trans g') rs
 | exc x=>exact fun Hs' H' g'=>q Hs' H' (g.trans g')
end
inductive tD (Γ:Ct) (W:XW) (g:ME) (σ:L2.St) (H:Hp) (Q:VK):Prop
 | mk (B0 B1 Hs:Hp) (ρ:MEnv) (r:R) (re:RE Γ B0 B1 Hs H σ ρ) (e:g ρ=some r) (q:RQ Γ W Hs H r Q)
inductive tL (Γ:Ct) (W:XW) (g:ME) (σ:L2.St) (H:Hp) (Q:VK):Prop
 | mk (B0 B1 Hs:Hp) (ρ:MEnv) (r:R) (re:RE Γ B0 B1 Hs H σ ρ) (e:g ρ=some r) (q:RL Γ W Hs H r Q)
inductive tT (Γ:Ct) (W:XW) (g:ME) (σ:L2.St) (H:Hp) (Q:Bool->Hp->Prop):Prop
 | mk (B0 B1 Hs:Hp) (ρ:MEnv) (r:R) (re:RE Γ B0 B1 Hs H σ ρ) (e:g ρ=some r) (q:RB W Hs H r Q)
def b2f (Γ:Ct) (W:XW):List ME->TA
 | []=>tNil
 | g::gs=>b5L (tD Γ W g) (b2f Γ W gs)
def b5n (Γ:Ct) (W:XW):List ME->TA
 | []=>tNil
 | g::gs=>b5L (tL Γ W g) (b5n Γ W gs)
section
variable {Γ:Ct} {W:XW} {B0 B1 Hs H:Hp} {σ:L2.St} {ρ:MEnv} {r:R} {Q Q':VK} {g ga:ME} {k:D->Option R}
theorem tD.mono (t:tD Γ W g σ H Q) (h:∀v H,Q v H->Q' v H):tD Γ W g σ H Q':=by
 obtain ⟨B0,B1,Hs,ρ,r,re,e,q⟩:=t
 exact ⟨B0,B1,Hs,ρ,r,re,e,q.mono h⟩
theorem tL.mono (t:tL Γ W g σ H Q) (h:∀v H,Q v H->Q' v H):tL Γ W g σ H Q':=by
 obtain ⟨B0,B1,Hs,ρ,r,re,e,q⟩:=t
 exact ⟨B0,B1,Hs,ρ,r,re,e,q.mono h⟩
theorem tL.toD (t:tL Γ W g σ H Q):tD Γ W g σ H Q:=by
 obtain ⟨B0,B1,Hs,ρ,r,re,e,q⟩:=t
 refine ⟨B0,B1,Hs,ρ,r,re,e,?_⟩
 cases r with
 | ok s=>exact fun v Hs' H' g' rs=>q v Hs' H' g' (rs.look g')
 | exc x=>exact q
theorem a1x (re:RE Γ B0 B1 Hs H σ ρ) (e:a06 (ga ρ) k=some r) (q:RQ Γ W Hs H r Q):
  tD Γ W ga σ H (fun v H1=>∃Hs1 d,Grow Hs H Hs1 H1/\RE Γ B0 B1 Hs1 H1 σ ρ/\Rep Γ Hs1 d v/\k d=some r/\RQ Γ W Hs1 H1 r Q):=by
 cases h:ga ρ with
 | none=>rw [h] at e;cases e
 | some x=>
  rw [h] at e
  refine ⟨B0,B1,Hs,ρ,x,re,h,?_⟩
  cases x with
  | exc y=>cases e;exact q
  | ok s=>
   intro v Hs' H' g' rs
   obtain ⟨Hs'',g2,_,rp⟩:=rs.share g'
   exact ⟨Hs'',s.val,g2,re.grow g2,rp,e,q.grow g2⟩
theorem a1J:∀(gs:List ME) {σ:L2.St} {H:Hp} {Q Q':List V->Hp->Prop},(∀v H,Q v H->Q' v H)->b2f Γ W gs σ H Q->b2f Γ W gs σ H Q'
 | [],_,_,_,_,h,t=>h _ _ t
 | g::gs,_,_,_,_,h,t=>tD.mono t fun v H1 t'=>a1J gs (fun vs H2 z=>h _ _ z) t'
theorem a7j:∀(gs:List ME) {σ:L2.St} {H:Hp} {Q Q':List V->Hp->Prop},(∀v H,Q v H->Q' v H)->b5n Γ W gs σ H Q->b5n Γ W gs σ H Q'
 | [],_,_,_,_,h,t=>h _ _ t
 | g::gs,_,_,_,_,h,t=>tL.mono t fun v H1 t'=>a7j gs (fun vs H2 z=>h _ _ z) t'
theorem a5p:∀(gs:List ME) {Hs H:Hp} {k:List D->Option R},RE Γ B0 B1 Hs H σ ρ->a0X gs ρ k=some r->RQ Γ W Hs H r Q->
  b2f Γ W gs σ H (fun vs H1=>∃Hs1 ds,Grow Hs H Hs1 H1/\RE Γ B0 B1 Hs1 H1 σ ρ/\RepL Γ Hs1 ds vs/\k ds=some r/\RQ Γ W Hs1 H1 r Q)
 | [],Hs,H,k,re,e,q=>⟨Hs,[],.refl re.b.i,re,.nil,e,q⟩
 | g::gs,Hs,H,k,re,e,q=>by
  refine (a1x re e q).mono fun v H1 ⟨Hs1,d,g1,re1,rp,e1,q1⟩=>?_
  refine a1J gs (fun vs H2 ⟨Hs2,ds,g2,re2,rps,e2,q2⟩=>?_) (a5p gs re1 e1 q1)
  exact ⟨Hs2,d::ds,g1.trans g2,re2,.cons (rp.mono g2.s) rps,e2,q2⟩
theorem a9f:∀(gs:List ME) {Hs H:Hp} {k:List D->Option R} {d:D},RE Γ B0 B1 Hs H σ ρ->b3c (a0X gs ρ k)=some (.ok (.sh d))->RQ Γ W Hs H (.ok (.sh d)) Q->
  b5n Γ W gs σ H (fun vs H1=>∃Hs1 ds,Grow Hs H Hs1 H1/\RE Γ B0 B1 Hs1 H1 σ ρ/\RepL Γ H1 ds vs/\b3c (k ds)=some (.ok (.sh d))/\RQ Γ W Hs1 H1 (.ok (.sh d)) Q)
 | [],Hs,H,k,d,re,e,q=>⟨Hs,[],.refl re.b.i,re,.nil,e,q⟩
 | g::gs,Hs,H,k,d,re,e,q=>by
  have e':b3c (a06 (g ρ) fun x=>a0X gs ρ fun ds=>k (x::ds))=some (.ok (.sh d)):=e
  cases h:g ρ with
  | none=>rw [h] at e';cases e'
  | some x=>
   rw [h] at e'
   cases x with
   | exc y=>cases e'
   | ok s=>
    refine ⟨B0,B1,Hs,ρ,.ok s,re,h,fun v Hs1 H1 g1 rp=>?_⟩
    refine a7j gs (fun vs H2 ⟨Hs2,ds,g2,re2,rps,e2,q2⟩=>?_) (a9f gs (k:=fun ds=>k (s.val::ds)) (re.grow g1) e' (q.grow g1))
    exact ⟨Hs2,s.val::ds,g1.trans g2,re2,.cons (rp.mono g2.h) rps,e2,q2⟩
end
theorem PE.imp {X:Cx} {e:Expr} {t t':TE} (h:PE X e t) (i:∀pins s σ H Q,Inv X pins σ H s->t' σ H Q->t σ H Q):PE X e t':=fun pins s σ H Q I q=>h pins s σ H Q I (i pins s σ H Q I q)
theorem PT.imp {X:Cx} {e:Expr} {t t':TT} (h:PT X e t) (i:∀pins s σ H Q,Inv X pins σ H s->t' σ H Q->t σ H Q):PT X e t':=fun pins s σ H Q I q=>h pins s σ H Q I (i pins s σ H Q I q)
theorem PW.imp {X:Cx} {e:Expr} {t t':TT} (h:PW X e t) (i:∀σ H Q,t' σ H Q->t σ H Q):PW X e t':=fun w pins s σ H Q I q=>h w pins s σ H Q I (i σ H Q q)
theorem PS.imp {X:Cx} {e:Stmt} {t t':TS} (h:PS X e t) (i:∀pins s σ H D,Inv X pins σ H s->t' D σ H->t D σ H):PS X e t':=fun pins s σ H D I q=>h pins s σ H D I (i pins s σ H D I q)
theorem PSs.imp {X:Cx} {e:List Stmt} {t t':TS} (h:PSs X e t) (i:∀D σ H,t' D σ H->t D σ H):PSs X e t':=fun pins s σ H D I q=>h pins s σ H D I (i D σ H q)
abbrev PD (X:Cx) (Γ:Ct) (W:XW) (e:Expr) (g:ME):Prop:=PE X e (tD Γ W g)
abbrev PL (X:Cx) (Γ:Ct) (W:XW) (e:Expr) (g:ME):Prop:=PE X e (tL Γ W g)
abbrev PTD (X:Cx) (Γ:Ct) (W:XW) (e:Expr) (g:ME):Prop:=PT X e (tT Γ W g)
abbrev PWD (X:Cx) (Γ:Ct) (W:XW) (e:Expr) (g:ME):Prop:=PW X e (tT Γ W g)
abbrev PAD (X:Cx) (Γ:Ct) (W:XW) (es:List Expr) (gs:List ME):Prop:=PA X es (b2f Γ W gs)
abbrev PAL (X:Cx) (Γ:Ct) (W:XW) (es:List Expr) (gs:List ME):Prop:=PA X es (b5n Γ W gs)
section
variable {X:Cx} {Γ:Ct} {W:XW} {e a b:Expr} {g ga gb:ME} {pos:Pos}
theorem PD.look (h:PD X Γ W e g):PL X Γ W e g:=PE.imp h fun _ _ _ _ _ _ t=>t.toD
theorem a0a {i:Nat} (h:PE X e (tVar i)):PD X Γ W e (eVar i):=PE.imp h fun _ _ σ H Q _ ⟨B0,B1,Hs,ρ,r,re,e1,q⟩=>by
 unfold eVar at e1
 split at e1
 ·rename_i d hd
  cases e1
  obtain ⟨v,e2,rp⟩:=re.sh i d hd
  exact ⟨v,e2,q v Hs H (.refl re.b.i) rp⟩
 ·cases e1
theorem a0K {i:Nat} (h:PE X e (tVar i)):PL X Γ W e (eAny i):=PE.imp h fun _ _ σ H Q _ ⟨B0,B1,Hs,ρ,r,re,e1,q⟩=>by
 unfold eAny at e1
 split at e1
 ·cases e1
 ·cases e1
 ·cases e1
 ·cases e1
 ·cases e1
 ·rename_i s hno hno2 hno4 hno5 hno3 hd
  cases e1
  cases s with
  | two d a o=>exact (hno3 d a o rfl).elim
  | sh d=>
   obtain ⟨v,e2,rp⟩:=re.sh i d hd
   exact ⟨v,e2,q v Hs H (.refl re.b.i) (Rep.mono re.b.i rp)⟩
  | own o=>
   obtain ⟨c,ho,e2,_,_,e4,rp⟩:=re.own i o hd
   exact ⟨.ref c,e2,q (.ref c) Hs H (.refl re.b.i) (((rp.o (fun kvs z=>by subst z;exact hno kvs rfl) (fun b u z=>by subst z;exact hno2 b u rfl) (fun kvs z=>by subst z;exact hno4 kvs rfl) fun kvs z=>by subst z;exact hno5 kvs rfl).mono re.b.i).val e4)⟩
 ·cases e1
theorem a91 {v:V} {d:D} (h:PE X e (tC v)) (rp:∀H,Rep Γ H d v):PD X Γ W e (eC d):=PE.imp h fun _ _ σ H Q _ ⟨B0,B1,Hs,ρ,r,re,e1,q⟩=>by
 cases e1
 exact q v Hs H (.refl re.b.i) (rp Hs)
theorem a0e {i j}:PD X Γ W (.Constant (.int i) j pos) (eC (.int i)):=a91 pe_int fun _=>a0m.mpr rfl
theorem pd_bl {i j}:PD X Γ W (.Constant (.bool i) j pos) (eC (.bl i)):=a91 pe_bl fun _=>a0D.mpr rfl
theorem pd_non {j}:PD X Γ W (.Constant .none j pos) (eC .non):=a91 pe_non fun _=>a2i.mpr rfl
theorem a0R {i j}:PD X Γ W (.Constant (.str i) j pos) (eC (.str i)):=a91 pe_str fun _=>a1L.mpr rfl
theorem b1l {i j pos'}:PD X Γ W (.UnaryOp .USub (.Constant (.int i) j pos') pos) (eC (.int (-i))):=PE.imp (pe_un un_neg pe_int) fun _ _ σ H Q _ ⟨B0,B1,Hs,ρ,r,re,e1,q⟩=>by
 cases e1
 exact ⟨i,rfl,q _ Hs H (.refl re.b.i) (RepS.of (a0m.mpr rfl))⟩
inductive rD (Γ:Ct) (W:XW) (f:D->D->Option R) (x y:V) (H:Hp) (Q:VK):Prop
 | mk (Hs:Hp) (d1 d2:D) (r:R) (sm:Same Hs H) (r1:Rep Γ Hs d1 x) (r2:Rep Γ Hs d2 y) (e:f d1 d2=some r) (q:RQ Γ W Hs H r Q)
theorem b3s {f:D->D->Option R} {σ:L2.St} {H:Hp} {Q:VK} (t:tD Γ W (eBin f ga gb) σ H Q):tOp (rD Γ W f) (tD Γ W ga) (tD Γ W gb) σ H Q:=by
 obtain ⟨B0,B1,Hs,ρ,r,re,e,q⟩:=t
 refine (a1x re e q).mono fun v H1 ⟨Hs1,d,g1,re1,rp,e1,q1⟩=>?_
 refine (a1x re1 e1 q1).mono fun u H2 ⟨Hs2,d2,g2,re2,rp2,e2,q2⟩=>?_
 exact ⟨Hs2,d,d2,r,re2.b.i,rp.mono g2.s,rp2,e2,q2⟩
theorem a0t {op:Operator} {f:D->D->Option R} (ho:OpR X (binaryOp op) (rD Γ W f)) (ha:PD X Γ W a ga) (hb:PD X Γ W b gb):PD X Γ W (.BinOp a op b pos) (eBin f ga gb):=
 PE.imp (pe_op ho ha hb) fun _ _ _ _ _ _ t=>b3s t
theorem b3F {op:CmpOp} {f:D->D->Option R} (ho:OpR X (compareOp op) (rD Γ W f)) (ha:PD X Γ W a ga) (hb:PD X Γ W b gb) (hm:behindInMarks op b=false:=by first|exact nomark _|rfl):PD X Γ W (.Compare a [op] [b] pos) (eBin f ga gb):=
 PE.imp (pe_cmpR ho ha hb hm) fun _ _ _ _ _ _ t=>b3s t
theorem b5I {σ:L2.St} {H:Hp} {Q:Bool->Hp->Prop} (t:tT Γ W g σ H Q):tD Γ W g σ H (fun x H'=>∃k,x=.bl k/\Q k H'):=by
 obtain ⟨B0,B1,Hs,ρ,r,re,e,q⟩:=t
 refine ⟨B0,B1,Hs,ρ,r,re,e,?_⟩
 cases r with
 | exc x=>exact q
 | ok s=>
  obtain ⟨c,ec,q⟩:=q
  intro v Hs' H' g' rs
  obtain ⟨_,g2,_,rp⟩:=rs.share g'
  rw [ec] at rp
  exact ⟨c,a0D.mp rp,q _ _ g'⟩
theorem a0o {op:CmpOp} {f:D->D->Option R} (ho:OpR X (compareOp op) (rD Γ W f)) (ha:PD X Γ W a ga) (hb:PD X Γ W b gb) (hm:behindInMarks op b=false:=by first|exact nomark _|rfl):PTD X Γ W (.Compare a [op] [b] pos) (eBin f ga gb):=
 PT.imp (pt_cmpR ho ha hb hm) fun _ _ _ _ _ _ t=>b3s (b5I t)
theorem a4H (h:PD X Γ W e g) (he:∀whole,isTrue e X.env whole=(do let v ←whole;standAt e.pos;holding [v] (truthy v)):=by intro _;rfl):PTD X Γ W e g:=
 PT.imp (pt_val h he) fun _ _ _ _ _ _ t=>b5I t
section
variable {t u:ME} {rest:List Expr}
theorem tT.mono {σ:L2.St} {H:Hp} {Q Q':Bool->Hp->Prop} (h:tT Γ W g σ H Q) (k:∀b H,Q b H->Q' b H):tT Γ W g σ H Q':=by
 obtain ⟨B0,B1,Hs,ρ,r,re,e,q⟩:=h
 refine ⟨B0,B1,Hs,ρ,r,re,e,?_⟩
 cases r with
 | exc x=>exact q
 | ok s=>obtain ⟨c,ec,q⟩:=q;exact ⟨c,ec,fun Hs' H' g'=>k _ _ (q Hs' H' g')⟩
theorem RB.grow {Hs H Hs1 H1:Hp} {r:R} {Q:Bool->Hp->Prop} (q:RB W Hs H r Q) (g:Grow Hs H Hs1 H1):RB W Hs1 H1 r Q:=by
 cases r with
 | exc x=>exact fun Hs' H' g'=>q Hs' H' (g.trans g')
 | ok s=>obtain ⟨c,ec,q⟩:=q;exact ⟨c,ec,fun Hs' H' g'=>q Hs' H' (g.trans g')⟩
theorem a4X {x:D} {k:Bool->Option R} {r:R} (h:asB x k=some r):∃c,x=.bl c/\k c=some r:=by
 cases x with
 | bl c=>exact ⟨c,rfl,h⟩
 | non=>cases h
 | int _=>cases h
 | str _=>cases h
 | tup _=>cases h
 | lst _=>cases h
 | fn _ _=>cases h
 | obj _ _ _=>cases h
theorem b6b (ha:PTD X Γ W a g):PTD X Γ W (.UnaryOp .Not a pos) (eNot g):=PT.imp (pt_not ha) fun _ _ σ H Q _ t=>by
 obtain ⟨B0,B1,Hs,ρ,r,re,e,q⟩:=t
 have e':a06 (g ρ) dNot=some r:=e
 cases h:g ρ with
 | none=>rw [h] at e';cases e'
 | some x=>
  rw [h] at e'
  refine ⟨B0,B1,Hs,ρ,x,re,h,?_⟩
  cases x with
  | exc y=>cases e';exact q
  | ok s=>
   obtain ⟨c,ec,e2⟩:=a4X (show asB s.val (fun c=>okB (!c))=some r from e')
   cases e2
   obtain ⟨c',ec',q⟩:=q
   cases ec'
   exact ⟨c,ec,q⟩
theorem a1Q (ha:PTD X Γ W a g):PWD X Γ W (.BoolOp .And [a] pos) g:=pw_and1 ha
theorem a66 (ha:PTD X Γ W a g):PWD X Γ W (.BoolOp .Or [a] pos) g:=pw_or1 ha
theorem a2j (ha:PTD X Γ W a t) (hb:PWD X Γ W (.BoolOp .And (b::rest) pos) u):PWD X Γ W (.BoolOp .And (a::b::rest) pos) (eAnd t u):=PW.imp (pw_and ha hb) fun σ H Q h=>by
 obtain ⟨B0,B1,Hs,ρ,r,re,e,q⟩:=h
 have e':a06 (t ρ) (fun x=>asB x fun c=>if c=true then u ρ else okB false)=some r:=e
 cases h:t ρ with
 | none=>rw [h] at e';cases e'
 | some x=>
  rw [h] at e'
  refine ⟨B0,B1,Hs,ρ,x,re,h,?_⟩
  cases x with
  | exc y=>cases e';exact q
  | ok s=>
   obtain ⟨c,ec,e2⟩:=a4X (show asB s.val _=some r from e')
   refine ⟨c,ec,fun Hs' H' g'=>?_⟩
   cases c with
   | true=>exact ⟨B0,B1,Hs',ρ,r,re.grow g',e2,q.grow g'⟩
   | false=>
    cases e2
    obtain ⟨c',ec',q⟩:=q
    cases ec'
    exact q _ _ g'
theorem a8X (ha:PTD X Γ W a t) (hb:PWD X Γ W (.BoolOp .Or (b::rest) pos) u):PWD X Γ W (.BoolOp .Or (a::b::rest) pos) (eOr t u):=PW.imp (pw_or ha hb) fun σ H Q h=>by
 obtain ⟨B0,B1,Hs,ρ,r,re,e,q⟩:=h
 have e':a06 (t ρ) (fun x=>asB x fun c=>if c=true then okB true else u ρ)=some r:=e
 cases h:t ρ with
 | none=>rw [h] at e';cases e'
 | some x=>
  rw [h] at e'
  refine ⟨B0,B1,Hs,ρ,x,re,h,?_⟩
  cases x with
  | exc y=>cases e';exact q
  | ok s=>
   obtain ⟨c,ec,e2⟩:=a4X (show asB s.val _=some r from e')
   refine ⟨c,ec,fun Hs' H' g'=>?_⟩
   cases c with
   | false=>exact ⟨B0,B1,Hs',ρ,r,re.grow g',e2,q.grow g'⟩
   | true=>
    cases e2
    obtain ⟨c',ec',q⟩:=q
    cases ec'
    exact q _ _ g'
theorem PWD.pt (h:PWD X Γ W e g):PTD X Γ W e g:=PW.pt h
theorem pd_one {op} (h:PD X Γ W a g):PD X Γ W (.BoolOp op [a] pos) g:=pe_one h
theorem b6p (ha:PD X Γ W a t) (hb:PD X Γ W (.BoolOp .And (b::rest) pos) u):PD X Γ W (.BoolOp .And (a::b::rest) pos) (eAnd t u):=PE.imp (pe_and ha hb) fun _ _ σ H Q _ h=>by
 obtain ⟨B0,B1,Hs,ρ,r,re,e,q⟩:=h
 refine (a1x (k:=fun x=>asB x fun c=>if c=true then u ρ else okB false) re e q).mono fun v H1 ⟨Hs1,d,g1,re1,rp,e1,q1⟩=>?_
 obtain ⟨c,rfl,e2⟩:=a4X e1
 refine ⟨c,a0D.mp rp,?_⟩
 cases c with
 | true=>exact ⟨B0,B1,Hs1,ρ,r,re1,e2,q1⟩
 | false=>cases e2;exact q1 _ Hs1 H1 (.refl re1.b.i) (RepS.of (a0D.mpr rfl))
theorem pd_not (ha:PD X Γ W a g):PD X Γ W (.UnaryOp .Not a pos) (eNot g):=PE.imp (pe_not ha) fun _ _ σ H Q _ h=>by
 obtain ⟨B0,B1,Hs,ρ,r,re,e,q⟩:=h
 refine (a1x (k:=dNot) re e q).mono fun v H1 ⟨Hs1,d,g1,re1,rp,e1,q1⟩=>?_
 obtain ⟨c,rfl,e2⟩:=a4X e1
 cases e2
 exact ⟨c,a0D.mp rp,q1 _ Hs1 H1 (.refl re1.b.i) (RepS.of (a0D.mpr rfl))⟩
theorem pd_ifExp {c:Expr} (hc:PTD X Γ W c g) (ha:PD X Γ W a ga) (hb:PD X Γ W b gb):PD X Γ W (.IfExp c a b pos) (eIf g ga gb):=PE.imp (pe_ifExp hc ha hb) fun _ _ σ H Q _ h=>by
 obtain ⟨B0,B1,Hs,ρ,r,re,e,q⟩:=h
 have e':a06 (g ρ) (fun x=>asB x fun c=>if c=true then ga ρ else gb ρ)=some r:=e
 cases h:g ρ with
 | none=>rw [h] at e';cases e'
 | some x=>
  rw [h] at e'
  refine ⟨B0,B1,Hs,ρ,x,re,h,?_⟩
  cases x with
  | exc y=>cases e';exact q
  | ok s=>
   obtain ⟨c,ec,e2⟩:=a4X (show asB s.val _=some r from e')
   refine ⟨c,ec,fun Hs' H' g'=>?_⟩
   cases c with
   | true=>exact ⟨B0,B1,Hs',ρ,r,re.grow g',e2,q.grow g'⟩
   | false=>exact ⟨B0,B1,Hs',ρ,r,re.grow g',e2,q.grow g'⟩
end
theorem a0d:PAD X Γ W [] []:=a4Z
theorem a1w {es:List Expr} {gs:List ME} (h:PD X Γ W e g) (t:PAD X Γ W es gs) (hs:starEach (e::es) X.env=(false,eval e X.env)::starEach es X.env:=by rfl):PAD X Γ W (e::es) (g::gs):=a1N h t hs
theorem a0V:PAL X Γ W [] []:=a4Z
theorem a0G {es:List Expr} {gs:List ME} (h:PL X Γ W e g) (t:PAL X Γ W es gs) (hs:starEach (e::es) X.env=(false,eval e X.env)::starEach es X.env:=by rfl):PAL X Γ W (e::es) (g::gs):=a1N h t hs
inductive spR (Γ:Ct) (W:XW) (F:List D->Option R) (vs:List V) (H:Hp) (Q:VK):Prop
 | mk (Hs:Hp) (ds:List D) (r:R) (sm:Same Hs H) (rl:RepL Γ Hs ds vs) (e:F ds=some r) (q:RQ Γ W Hs H r Q) (tb:Same Γ.tb Hs)
theorem a7I {F:List D->Option R} {gs:List ME} {σ:L2.St} {H:Hp} {Q:VK} (t:tD Γ W (a0v F gs) σ H Q):b2f Γ W gs σ H fun vs H1=>spR Γ W F vs H1 Q:=by
 obtain ⟨B0,B1,Hs,ρ,r,re,e,q⟩:=t
 exact a1J gs (fun vs H1 ⟨Hs1,ds,_,re1,rp,e1,q1⟩=>⟨Hs1,ds,r,re1.b.i,rp,e1,q1,re1.tb⟩) (a5p gs re e q)
theorem b3r {F:List D->Option R} {gs:List ME} {σ:L2.St} {H:Hp} {Q:VK} (t:tD Γ W (a0E F gs) σ H Q):b5n Γ W gs σ H fun vs H1=>spR Γ W F vs H1 Q:=by
 obtain ⟨B0,B1,Hs,ρ,r,re,e,q⟩:=t
 have e':b3c (a0X gs ρ F)=some r:=e
 obtain ⟨d,rfl⟩:∃d,r=.ok (.sh d):=by
  unfold b3c at e'
  split at e'
  ·split at e'
   ·cases e';exact ⟨_,rfl⟩
   ·cases e'
  ·cases e'
 refine a7j gs (fun vs H1 ⟨Hs1,ds,g1,re1,rp,e1,q1⟩=>?_) (a9f gs re e' q)
 unfold b3c at e1
 split at e1
 ·rename_i s hs
  split at e1
  ·rename_i hf
   cases e1
   refine ⟨H1,ds,_,.refl _,rp,hs,fun v Hs' H' g' rs=>q1 v Hs1 H' (.only re1.b.i g'.h) ?_,re1.tb.trans re1.b.i⟩
   exact rep_flat (rs.look g') hf
  ·cases e1
 ·cases e1
section
variable {CX:CXT} {k:Nat} {f:Addr} {fd:FuncData} {ps:List Str} {x:Str} {p:Pos} {es:List Expr} {gs:List ME} {F:List D->Option R}
def spD (Γ:Ct) (W:XW) (F:List D->Option R):Sp:=fun vs H Q _=>spR Γ W F vs H Q
theorem pd_call (G:FnOk X.prog X.w X.K X.mg X.base CX0 k f fd ps (spD Γ W F)) (hr:Room k X.A) (hg:Gl X x) (hm:X.mg x=some (.ref f)) (hk:keepIn X.K (.ref f)=true) (hb:a4o X.K fd ps [])
  (ha:PAD X Γ W (e::es) gs) (hdb:(x == ("__debug__" : Str))=false:=by decide) (he:starEach (e::es) X.env=(false,eval e X.env)::starEach es X.env:=by rfl) (hpl:(backTo pos (starEach es X.env)).any (·.1)=false:=by rfl):
  PD X Γ W (.Call (.Name x p) (e::es) [] pos) (a0v F gs):=
 PE.imp (b2H (E:=E0) (dvs:=[]) (ds:=[]) G hr hg hm hk hb .nil b1n ha hdb he hpl) fun _ _ _ _ _ _ t=>a1J gs (fun vs H1 z=>by show spR Γ W F (vs++[]) H1 _;rw [append_nil];exact z) (a7I t)
end
section
variable {x:Str} {p:Pos} {es:List Expr} {gs:List ME} {F:List D->Option R} {id T:String}
theorem b3G (hc:a2M X (.builtin id) (spR Γ W F)) (hg:Gl X x) (hm:X.mg x=none) (hv:bootBuiltins x=some (.builtin id)) (ha:PAD X Γ W (e::es) gs) (hn:x ≠ "__name__" := by decide) (hdb:(x == ("__debug__" : Str))=false:=by decide)
  (he:starEach (e::es) X.env=(false,eval e X.env)::starEach es X.env:=by rfl) (hpl:(backTo pos (starEach es X.env)).any (·.1)=false:=by rfl):PD X Γ W (.Call (.Name x p) (e::es) [] pos) (a0v F gs):=
 PE.imp (a6l hc hg hm hv ha hn hdb he hpl) fun _ _ _ _ _ _ t=>a7I t
theorem a0U (hc:a2M X (.builtin id) (spR Γ W F)) (hg:Gl X x) (hm:X.mg x=none) (hv:bootBuiltins x=some (.builtin id)) (ha:PAL X Γ W (e::es) gs) (hn:x ≠ "__name__" := by decide) (hdb:(x == ("__debug__" : Str))=false:=by decide)
  (he:starEach (e::es) X.env=(false,eval e X.env)::starEach es X.env:=by rfl) (hpl:(backTo pos (starEach es X.env)).any (·.1)=false:=by rfl):PD X Γ W (.Call (.Name x p) (e::es) [] pos) (a0E F gs):=
 PE.imp (a6l hc hg hm hv ha hn hdb he hpl) fun _ _ _ _ _ _ t=>b3r t
theorem a6m (hc:a2M X (.type T) (spR Γ W F)) (hg:Gl X x) (hm:X.mg x=none) (hv:bootBuiltins x=some (.type T)) (ha:PAD X Γ W (e::es) gs) (hn:x ≠ "__name__" := by decide) (hdb:(x == ("__debug__" : Str))=false:=by decide)
  (he:starEach (e::es) X.env=(false,eval e X.env)::starEach es X.env:=by rfl) (hpl:(backTo pos (starEach es X.env)).any (·.1)=false:=by rfl):PD X Γ W (.Call (.Name x p) (e::es) [] pos) (a0v F gs):=
 PE.imp (a6k hc hg hm hv ha hn hdb he hpl) fun _ _ _ _ _ _ t=>a7I t
end
theorem a0l {es:List Expr} {gs:List ME} {x1} (ha:PAD X Γ W es gs):PD X Γ W (.Tuple es x1 pos) (eTup gs):=PE.imp (pe_tup ha) fun _ _ σ H Q _ t=>by
 refine a1J gs (fun vs H1 ⟨Hs1,ds,r,sm,rp,e1,q1,_⟩=>?_) (a7I t)
 try dsimp only at e1
 split at e1
 ·rename_i hl
  cases e1
  refine ⟨by rw [←rp.length];exact le_trans hl (by decide),fun p hp=>q1 _ (upd Hs1 p (.tup vs)) _ (.new sm hp) ?_⟩
  exact a1k.mpr ⟨p,vs,rfl,.of a0O,rp.mono (a1E (sm.free hp))⟩
 ·cases e1
theorem a1U {es:List Expr} {gs:List ME} (ha:PAD X Γ W es gs):PD X Γ W (.List es pos) (eLst gs):=PE.imp (pe_lst ha) fun _ _ σ H Q _ t=>by
 refine a1J gs (fun vs H1 ⟨Hs1,ds,r,sm,rp,e1,q1,_⟩=>?_) (a7I t)
 try dsimp only at e1
 split at e1
 ·rename_i hl
  cases e1
  refine ⟨by rw [←rp.length];exact le_trans hl (by decide),fun p hp=>q1 _ Hs1 _ (.newOwn sm hp) ?_⟩
  exact ⟨p,_,rfl,hp,sm.free hp,a0O,vs,rfl,rp⟩
 ·cases e1
theorem a0i {f:D->D->Option R} (ho:IxR X (rD Γ W f)) (ha:PD X Γ W a ga) (hb:PD X Γ W b gb) (hs:b3m b:=by exact fun _ _=>rfl):PD X Γ W (.Subscript a b pos) (eBin f ga gb):=
 PE.imp (pe_ix ho ha hb hs) fun _ _ _ _ _ _ t=>b3s t
end
def EQ (Γ:Ct) (W:XW) (B0 B1 Hs:Hp) (D:Ends):Out->Prop
 | .next ρ'=>∀σ' Hs' H',Same Hs Hs'->RE Γ B0 B1 Hs' H' σ' ρ'->D.nx σ' H'
 | .brk ρ'=>∀σ' Hs' H',Same Hs Hs'->RE Γ B0 B1 Hs' H' σ' ρ'->D.bk σ' H'
 | .cont ρ'=>∀σ' Hs' H',Same Hs Hs'->RE Γ B0 B1 Hs' H' σ' ρ'->D.ct σ' H'
 | .ret s=>∀v Hs' H',Same Hs Hs'->Grow B0 B1 Hs' H'->RepS Γ B1 Hs' H' s v->D.rt v H'
 | .exc x=>∀Hs' H',Same Hs Hs'->Grow B0 B1 Hs' H'->W x Hs' H'
theorem EQ.from {Γ:Ct} {W:XW} {B0 B1 Hs Hs1:Hp} {D:Ends} {o:Out} (q:EQ Γ W B0 B1 Hs D o) (k:Same Hs Hs1):EQ Γ W B0 B1 Hs1 D o:=by
 cases o with
 | next ρ=>exact fun σ' Hs' H' h=>q σ' Hs' H' (k.trans h)
 | brk ρ=>exact fun σ' Hs' H' h=>q σ' Hs' H' (k.trans h)
 | cont ρ=>exact fun σ' Hs' H' h=>q σ' Hs' H' (k.trans h)
 | ret s=>exact fun v Hs' H' h=>q v Hs' H' (k.trans h)
 | exc x=>exact fun Hs' H' h=>q Hs' H' (k.trans h)
inductive tS (Γ:Ct) (W:XW) (g:MC) (D:Ends) (σ:L2.St) (H:Hp):Prop
 | mk (B0 B1 Hs:Hp) (ρ:MEnv) (o:Out) (re:RE Γ B0 B1 Hs H σ ρ) (e:g ρ=some o) (q:EQ Γ W B0 B1 Hs D o)
abbrev PSD (X:Cx) (Γ:Ct) (W:XW) (st:Stmt) (g:MC):Prop:=PS X st (tS Γ W g)
abbrev PSsD (X:Cx) (Γ:Ct) (W:XW) (st:List Stmt) (g:MC):Prop:=PSs X st (tS Γ W g)
section
variable {X:Cx} {Γ:Ct} {W:XW} {st:Stmt} {rest a b:List Stmt} {g g1 g2:MC} {ge gc:ME} {e c:Expr} {pos:Pos}
theorem a0q:PSsD X Γ W [] a0Y:=PSs.imp b6d fun D σ H ⟨B0,B1,Hs,ρ,o,re,e,q⟩=>by
 cases e
 exact q σ Hs H (.refl _) re
theorem a0f (h1:PSD X Γ W st g1) (h2:PSsD X Γ W rest g2):PSsD X Γ W (st::rest) (sSeq g1 g2):=PSs.imp (b3D h1 h2) fun D σ H ⟨B0,B1,Hs,ρ,o,re,e,q⟩=>by
 unfold sSeq at e
 cases h:g1 ρ with
 | none=>rw [h] at e;cases e
 | some u=>
  rw [h] at e
  refine ⟨B0,B1,Hs,ρ,u,re,h,?_⟩
  cases u with
  | next ρ'=>exact fun σ' Hs' H' sm re'=>⟨B0,B1,Hs',ρ',o,re',e,q.from sm⟩
  | brk ρ'=>cases e;exact q
  | cont ρ'=>cases e;exact q
  | ret s=>cases e;exact q
  | exc x=>cases e;exact q
theorem a0h (h:PSD X Γ W st g):PSsD X Γ W [st] g:=pss_one h
theorem a0B {i:Nat} (h:PSsD X Γ W rest g):PSsD X Γ W rest (sDem i g):=PSs.imp h fun D σ H ⟨B0,B1,Hs,ρ,o,re,e,q⟩=>by
 obtain ⟨Hs',sm,re'⟩:=re.dem i
 exact ⟨B0,B1,Hs',dem i ρ,o,re',e,q.from sm⟩
theorem tD_O {B0 B1 Hs H:Hp} {σ:L2.St} {ρ:MEnv} {o:Out} {D:Ends} {k:S->Option Out} (re:RE Γ B0 B1 Hs H σ ρ) (e:a4V (ge ρ) k=some o) (q:EQ Γ W B0 B1 Hs D o):
  tD Γ W ge σ H (fun v H1=>∃Hs1 s,Grow Hs H Hs1 H1/\RepS Γ H Hs1 H1 s v/\k s=some o):=by
 cases h:ge ρ with
 | none=>rw [h] at e;cases e
 | some x=>
  rw [h] at e
  refine ⟨B0,B1,Hs,ρ,x,re,h,?_⟩
  cases x with
  | exc y=>cases e;exact fun Hs' H' g'=>q Hs' H' g'.s (re.b.trans g')
  | ok s=>exact fun v Hs' H' g' rs=>⟨Hs',s,g',rs,e⟩
theorem b4u {i:Nat} {t:TE} (h:PS X st (tAsg (tD Γ W ge) (b69 i))) (hi:i<X.N.length):PSD X Γ W st (sSet i ge):=PS.imp h fun pins s σ H D I ⟨B0,B1,Hs,ρ,o,re,e,q⟩=>by
 refine (tD_O re e q).mono fun v H1 ⟨Hs1,s,g1,rs,e1⟩=>?_
 cases e1
 exact q _ Hs1 H1 g1.s (re.setS g1 (by rw [I.len];exact hi) rs)
theorem psd_set {i:Nat} {x:Str} {pos':Pos} (hN:X.N.Nodup) (hi:X.N[i]?=some x) (hx:Loc X.env.scope x) (he:PD X Γ W e ge) (hs:swapsWith e (some (.Name x pos')) pos.line X.env=pure false:=by rfl)
  (hf:X.fn x=true\/X.env.scope.names.lookup x=some .local:=by first|exact .inl rfl|exact .inr rfl|assumption):PSD X Γ W (.Assign [.Name x pos'] e pos) (sSet i ge):=
 b4u (t:=tD Γ W ge) (ps_set hN hi hx he hs hf) (List.getElem?_eq_some_iff.mp hi).1
theorem a0j (he:PD X Γ W e ge):PSD X Γ W (.Return (some e) pos) (sRet ge):=PS.imp (ps_ret he) fun pins s σ H D I ⟨B0,B1,Hs,ρ,o,re,e,q⟩=>by
 refine (tD_O re e q).mono fun v H1 ⟨Hs1,s,g1,rs,e1⟩=>?_
 cases e1
 exact q v Hs1 H1 g1.s (re.b.trans g1) (rs.back re.b.h)
theorem b2e {x:D} {k:Bool->Option Out} {o:Out} (h:asBO x k=some o):∃c,x=.bl c/\k c=some o:=by
 cases x with
 | bl c=>exact ⟨c,rfl,h⟩
 | non=>cases h
 | int _=>cases h
 | str _=>cases h
 | tup _=>cases h
 | lst _=>cases h
 | fn _ _=>cases h
 | obj _ _ _=>cases h
theorem a0H (hc:PTD X Γ W c gc) (ha:PSsD X Γ W a g1) (hb:PSsD X Γ W b g2):PSD X Γ W (.If c a b pos) (sIf gc g1 g2):=PS.imp (ps_if hc ha hb) fun pins s σ H D I ⟨B0,B1,Hs,ρ,o,re,e,q⟩=>by
 have e':a4V (gc ρ) (fun s=>asBO s.val fun t=>if t=true then g1 ρ else g2 ρ)=some o:=e
 cases h:gc ρ with
 | none=>rw [h] at e';cases e'
 | some x=>
  rw [h] at e'
  refine ⟨B0,B1,Hs,ρ,x,re,h,?_⟩
  cases x with
  | exc y=>cases e';exact fun Hs' H' g'=>q Hs' H' g'.s (re.b.trans g')
  | ok s=>
   obtain ⟨t,et,e2⟩:=b2e (show asBO s.val _=some o from e')
   refine ⟨t,et,fun Hs' H' g'=>?_⟩
   cases t with
   | true=>exact ⟨B0,B1,Hs',ρ,o,re.grow g',e2,q.from g'.s⟩
   | false=>exact ⟨B0,B1,Hs',ρ,o,re.grow g',e2,q.from g'.s⟩
structure Walk (Γ:Ct) (Hs0:Hp) (J:It) (ds:List D):Prop where
 go:∀i Hs H,i<ds.length->Same Hs0 Hs->Same Hs H->J.go i H
 stop:∀Hs H,Same Hs0 Hs->Same Hs H->J.stop ds.length H
 yld:∀i Hs H x H',i<ds.length->Same Hs0 Hs->Same Hs H->J.yld i H x H'->∃d Hs',ds[i]?=some d/\Grow Hs H Hs' H'/\Rep Γ Hs' d x
def IQ (Γ:Ct) (W:XW) (Hs H:Hp) (r:RI) (Q:It->Hp->Prop):Prop:=match r with
 | .ok ds=>∀J Hs' H',Grow Hs H Hs' H'->Walk Γ Hs' J ds->Q J H'
 | .exc x=>∀Hs' H',Grow Hs H Hs' H'->W x Hs' H'
inductive tI (Γ:Ct) (W:XW) (gi:MI) (σ:L2.St) (H:Hp) (Q:It->Hp->Prop):Prop
 | mk (B0 B1 Hs:Hp) (ρ:MEnv) (r:RI) (re:RE Γ B0 B1 Hs H σ ρ) (e:gi ρ=some r) (q:IQ Γ W Hs H r Q)
abbrev PID (X:Cx) (Γ:Ct) (W:XW) (tg iter:Expr) (gi:MI):Prop:=PI X tg iter (tI Γ W gi)
theorem PI.imp {X:Cx} {tg e:Expr} {t t':TI} (h:PI X tg e t) (i:∀pins s σ H Q,Inv X pins σ H s->t' σ H Q->t σ H Q):PI X tg e t':=fun pins s σ H Q I q=>h pins s σ H Q I (i pins s σ H Q I q)
inductive tB3 (Γ:Ct) (js:List Nat) (bd:MB) (v:V) (σ:L2.St) (H:Hp) (Q:L2.St->Hp->Prop):Prop
 | mk (B0 B1 Hs:Hp) (ρ:MEnv) (d:D) (ρ':MEnv) (re:RE Γ B0 B1 Hs H σ ρ) (rp:Rep Γ Hs d v) (e:bd d ρ=some ρ') (q:∀σ':L2.St,RE Γ B0 B1 Hs H σ' ρ'->(∀j:Nat,j∉js->σ'[j]?=σ[j]?)->Q σ' H)
abbrev PBD (X:Cx) (Γ:Ct) (tg:Expr) (js:List Nat) (bd:MB):Prop:=PG X tg (tB3 Γ js bd)
theorem PG.imp {X:Cx} {tg:Expr} {t t':TG} (h:PG X tg t) (i:∀pins s v σ H Q,Inv X pins σ H s->t' v σ H Q->t v σ H Q):PG X tg t':=fun pins s σ H v u Q I r q=>h pins s σ H v u Q I r (i pins s v σ H Q I q)
theorem pbd_name {j:Nat} {x:Str} (hN:X.N.Nodup) (hi:X.N[j]?=some x) (hx:Loc X.env.scope x) (hf:X.fn x=true\/X.env.scope.names.lookup x=some .local:=by first|exact .inl rfl|exact .inr rfl|assumption):PBD X Γ (.Name x pos) [j] (a1v j):=
 PG.imp (pg_name hN hi hx hf) fun pins s v σ H Q I ⟨B0,B1,Hs,ρ,d,ρ',re,rp,e,q⟩=>by
  cases e
  exact q _ (re.setSh (by rw [I.len];exact (List.getElem?_eq_some_iff.mp hi).1) rp) fun i hi=>getElem?_set_ne fun z=>hi (by simp [z])
theorem for_walk {js:List Nat} {bd:MB} {body:MC} {ds:List D} {J:It} {D:Ends} {B0 B1 Hs0:Hp} {o:Out} (w:Walk Γ Hs0 J ds) (q:EQ Γ W B0 B1 Hs0 D o) {σ:L2.St} {H:Hp} {ρ:MEnv} (re:RE Γ B0 B1 Hs0 H σ ρ) (e:forD bd body ds ρ=some o):
  ∃Wv:Nat->Nat->L2.St->Hp->Prop,(∃m,Wv 0 m σ H)/\∀i m σ H,Wv i m σ H->
   (J.stop i H/\D.nx σ H)\/(J.go i H/\∃N:L2.St->Hp->Prop,(∀σ' H',N σ' H'->∃m',m'<m/\Wv (i+1) m' σ' H')/\∀x H',J.yld i H x H'->tB3 Γ js bd x σ H' fun σ2 H2=>tS Γ W body { D with nx:=N,ct:=N,bk:=D.nx } σ2 H2):=by
 refine ⟨fun i m σ H=>m=ds.length - i/\i<=ds.length/\∃Hs ρ,Same Hs0 Hs/\RE Γ B0 B1 Hs H σ ρ/\forD bd body (ds.drop i) ρ=some o,⟨_,rfl,zero_le _,Hs0,ρ,.refl _,re,e⟩,?_⟩
 rintro i m σ H ⟨rfl,hi,Hs,ρ,sm,re,e⟩
 by_cases hlt:i<ds.length
 ·refine .inr ⟨w.go i Hs H hlt sm re.b.i,fun σ' H'=>∃Hs' ρ',Same Hs0 Hs'/\RE Γ B0 B1 Hs' H' σ' ρ'/\forD bd body (ds.drop (i+1)) ρ'=some o,fun σ' H' ⟨Hs',ρ',s',r',e'⟩=>⟨_,by omega,rfl,hlt,Hs',ρ',s',r',e'⟩,fun x H' y=>?_⟩
  obtain ⟨d,Hs',ed,g',rp⟩:=w.yld i Hs H x H' hlt sm re.b.i y
  have hd:ds.drop i=d::ds.drop (i+1):=by
   rw [List.drop_eq_getElem_cons hlt]
   congr 1
   rw [getElem?_eq_getElem hlt] at ed
   exact Option.some.inj ed
  rw [hd] at e
  unfold forD at e
  cases h:bd d ρ with
  | none=>rw [h] at e;cases e
  | some ρ1=>
   rw [h] at e
   dsimp only at e
   refine ⟨B0,B1,Hs',ρ,d,ρ1,re.grow g',rp,h,fun σ2 re2 _=>?_⟩
   cases hb:body ρ1 with
   | none=>rw [hb] at e;cases e
   | some u=>
    rw [hb] at e
    refine ⟨B0,B1,Hs',ρ1,u,re2,hb,?_⟩
    have s1:Same Hs0 Hs':=sm.trans g'.s
    cases u with
    | next ρ2=>exact fun σ' Hs2 H2 s2 re3=>⟨Hs2,ρ2,s1.trans s2,re3,e⟩
    | cont ρ2=>exact fun σ' Hs2 H2 s2 re3=>⟨Hs2,ρ2,s1.trans s2,re3,e⟩
    | brk ρ2=>cases e;exact fun σ' Hs2 H2 s2 re3=>q σ' Hs2 H2 (s1.trans s2) re3
    | ret s=>cases e;exact fun v Hs2 H2 s2=>q v Hs2 H2 (s1.trans s2)
    | exc x=>cases e;exact fun Hs2 H2 s2=>q Hs2 H2 (s1.trans s2)
 ·have ei:i=ds.length:=by omega
  subst ei
  rw [List.drop_length] at e
  cases e
  exact .inl ⟨w.stop Hs H sm re.b.i,q σ Hs H sm re⟩
theorem a67 {tg iter:Expr} {gi:MI} {js:List Nat} {bd:MB} {body:List Stmt} (hp:PassesOwn (model X.prog X.w) X.A X.env X.xe) (hc:X.calm=true) (hi:PID X Γ W tg iter gi) (hg:PBD X Γ tg js bd) (hb:PSsD X Γ W body g)
  (hs:∀x,foldedSetIterable iter X.env x=pure x:=by intro _;rfl):PSD X Γ W (.For tg iter body [] pos) (sFor gi bd g):=PS.imp (ps_for hp hc hi hg hb hs) fun pins s σ H D I ⟨B0,B1,Hs,ρ,o,re,e,q⟩=>by
 unfold sFor at e
 cases h:gi ρ with
 | none=>rw [h] at e;cases e
 | some r=>
  rw [h] at e
  refine ⟨B0,B1,Hs,ρ,r,re,h,?_⟩
  cases r with
  | exc x=>cases e;exact fun Hs' H' g'=>q Hs' H' g'.s (re.b.trans g')
  | ok ds=>exact fun J Hs' H' g' w=>for_walk w (q.from g'.s) (re.grow g') e
theorem b38 {body:MC} {D:Ends} {B0 B1 Hs0:Hp} {o:Out} (q:EQ Γ W B0 B1 Hs0 D o) (n:Nat) {σ:L2.St} {H:Hp} {ρ:MEnv} (re:RE Γ B0 B1 Hs0 H σ ρ) (e:a23 gc body n ρ=some o):tWhile (tT Γ W gc) (tS Γ W body) D σ H:=by
 refine ⟨fun m σ H=>∃Hs ρ,Same Hs0 Hs/\RE Γ B0 B1 Hs H σ ρ/\a23 gc body m ρ=some o,⟨n,Hs0,ρ,.refl _,re,e⟩,?_⟩
 rintro m σ H ⟨Hs,ρ,sm,re,e⟩
 cases m with
 | zero=>cases e
 | succ m=>
  have e':a4V (gc ρ) (fun s=>asBO s.val fun t=>if t=true then (match body ρ with
   | some (.next ρ2)=>a23 gc body m ρ2
   | some (.cont ρ2)=>a23 gc body m ρ2
   | some (.brk ρ2)=>some (.next ρ2)
   | o=>o) else some (.next ρ))=some o:=e
  cases h:gc ρ with
  | none=>rw [h] at e';cases e'
  | some x=>
   rw [h] at e'
   refine ⟨B0,B1,Hs,ρ,x,re,h,?_⟩
   cases x with
   | exc y=>cases e';exact fun Hs' H' g'=>q Hs' H' (sm.trans g'.s) (re.b.trans g')
   | ok s=>
    obtain ⟨t,et,e2⟩:=b2e (show asBO s.val _=some o from e')
    refine ⟨t,et,fun Hs' H' g'=>?_⟩
    have s1:Same Hs0 Hs':=sm.trans g'.s
    cases t with
    | false=>
     cases e2
     exact q σ Hs' H' s1 (re.grow g')
    | true=>
     refine ⟨fun σ' H'=>∃Hs' ρ',Same Hs0 Hs'/\RE Γ B0 B1 Hs' H' σ' ρ'/\a23 gc body m ρ'=some o,fun σ' H' z=>⟨m,lt_succ_self _,z⟩,?_⟩
     have e3:=e2
     rw [if_pos rfl] at e3
     cases hb:body ρ with
     | none=>rw [hb] at e3;cases e3
     | some u=>
      rw [hb] at e3
      refine ⟨B0,B1,Hs',ρ,u,re.grow g',hb,?_⟩
      cases u with
      | next ρ2=>exact fun σ' Hs2 H2 s2 re3=>⟨Hs2,ρ2,s1.trans s2,re3,e3⟩
      | cont ρ2=>exact fun σ' Hs2 H2 s2 re3=>⟨Hs2,ρ2,s1.trans s2,re3,e3⟩
      | brk ρ2=>cases e3;exact fun σ' Hs2 H2 s2 re3=>q σ' Hs2 H2 (s1.trans s2) re3
      | ret s=>cases e3;exact fun v Hs2 H2 s2=>q v Hs2 H2 (s1.trans s2)
      | exc x=>cases e3;exact fun Hs2 H2 s2=>q Hs2 H2 (s1.trans s2)
theorem b1f {body:List Stmt} (fuel:MEnv->Nat) (hp:PassesOwn (model X.prog X.w) X.A X.env X.xe) (hc:PTD X Γ W c gc) (hb:PSsD X Γ W body g):PSD X Γ W (.While c body [] pos) (b56 fuel gc g):=
 PS.imp (ps_while hp hc hb) fun pins s σ H D I ⟨B0,B1,Hs,ρ,o,re,e,q⟩=>b38 q (fuel ρ) re e
theorem b5u {Hs0:Hp} {a:Addr} {xs:List V} {ds:List D} {K:Frag} (h:SqL K Hs0 a xs) (r:RepL Γ Hs0 ds xs):Walk Γ Hs0 (Itl K a) ds where
 go:=fun i Hs H hi s1 s2=>⟨xs,xs[i]'(by rw [←r.length];exact hi),Same.seq (s1.trans s2) h,by rw [getElem?_eq_getElem]⟩
 stop:=fun Hs H s1 s2=>⟨xs,Same.seq (s1.trans s2) h,le_of_eq r.length.symm⟩
 yld:=fun i Hs H x H' hi s1 s2 ⟨e,y⟩=>by
  subst e
  obtain ⟨z,e1,q⟩:=r.get (getElem?_eq_getElem hi)
  have e2:=y xs (Same.seq (s1.trans s2) h)
  rw [e1] at e2
  cases e2
  exact ⟨_,Hs,getElem?_eq_getElem hi,.refl s2,q.mono s1⟩
theorem walk_tup {Hs0:Hp} {a:Addr} {xs:List V} {ds:List D} {K:Frag} (h:SqT K Hs0 a xs) (r:RepL Γ Hs0 ds xs):Walk Γ Hs0 (Itt K a) ds where
 go:=fun i Hs H hi s1 s2=>⟨xs,xs[i]'(by rw [←r.length];exact hi),a1P (s1.trans s2) h,by rw [getElem?_eq_getElem]⟩
 stop:=fun Hs H s1 s2=>⟨xs,a1P (s1.trans s2) h,le_of_eq r.length.symm⟩
 yld:=fun i Hs H x H' hi s1 s2 ⟨e,y⟩=>by
  subst e
  obtain ⟨z,e1,q⟩:=r.get (getElem?_eq_getElem hi)
  have e2:=y xs (a1P (s1.trans s2) h)
  rw [e1] at e2
  cases e2
  exact ⟨_,Hs,getElem?_eq_getElem hi,.refl s2,q.mono s1⟩
theorem b3n {Hs0:Hp} (lo hi:Int):Walk Γ Hs0 (Itr lo (hi - lo).toNat) (rng lo hi) where
 go:=fun i Hs H h s1 s2=>by
  unfold rng at h
  rw [length_map,length_range] at h
  exact h
 stop:=fun Hs H s1 s2=>by
  unfold rng
  rw [length_map,length_range]
  exact le_refl _
 yld:=fun i Hs H x H' h s1 s2 ⟨e,y⟩=>by
  subst e y
  unfold rng at h ⊢
  rw [length_map,length_range] at h
  exact ⟨.int (lo+i),Hs,by rw [getElem?_map,getElem?_range h];rfl,.refl s2,a0m.mpr rfl⟩
end
theorem b0t (js:List Nat):∀ρ:MEnv,(a1c js ρ).length=ρ.length:=by
 induction js with
 | nil=>intro ρ;rfl
 | cons j js ih=>intro ρ;show (a1c js (ρ.set j none)).length=_;rw [ih,length_set]
theorem a7c (js:List Nat):∀(ρ:MEnv) (i:Nat) (v:S),(a1c js ρ)[i]?=some (some v)->i∉js/\ρ[i]?=some (some v):=by
 induction js with
 | nil=>intro ρ i v h;exact ⟨by simp,h⟩
 | cons j js ih=>
  intro ρ i v h
  obtain ⟨h1,h2⟩:=ih (ρ.set j none) i v h
  by_cases hj:j=i
  ·subst hj
   by_cases hl:j<ρ.length
   ·rw [getElem?_set_self hl] at h2;cases h2
   ·rw [getElem?_eq_none (by rw [length_set];omega)] at h2;cases h2
  ·rw [getElem?_set_ne hj] at h2
   exact ⟨by simp [h1,Ne.symm hj],h2⟩
theorem b3a (js:List Nat):∀(σ:L2.St) (i:Nat),i∉js->(a4n js σ)[i]?=σ[i]?:=by
 induction js with
 | nil=>intro σ i _;rfl
 | cons j js ih=>
  intro σ i h
  have h':i≠j/\i∉js:=by simpa using h
  show (a4n js (σ.set j none))[i]?=_
  rw [ih _ _ h'.2,getElem?_set_ne (Ne.symm h'.1)]
section
variable {Γ:Ct} {B0 B1 Hs H:Hp} {σ σ':L2.St} {ρ ρ':MEnv}
theorem RE.sub (r:RE Γ B0 B1 Hs H σ ρ) (hl:ρ'.length=σ'.length) (h:∀(i:Nat) (s:S),ρ'[i]?=some (some s)->ρ[i]?=some (some s)/\σ'[i]?=σ[i]?):RE Γ B0 B1 Hs H σ' ρ' where
 tb:=r.tb
 b:=r.b
 sh:=fun i d e=>by
  obtain ⟨e1,e2⟩:=h i _ e
  obtain ⟨v,e3,q⟩:=r.sh i d e1
  exact ⟨v,e2.trans e3,q⟩
 own:=fun i o e=>by
  obtain ⟨e1,e2⟩:=h i _ e
  obtain ⟨a,ho,e3,f1,f2,f3,q⟩:=r.own i o e1
  exact ⟨a,ho,e2.trans e3,f1,f2,f3,q⟩
 apart:=fun i j o u a hij hi hj ha=>by
  obtain ⟨e1,e2⟩:=h i _ hi
  obtain ⟨e3,e4⟩:=h j _ hj
  rw [e4]
  exact r.apart i j o u a hij e1 e3 (e2.symm.trans ha)
 len:=hl
theorem RE.other (r:RE Γ B0 B1 Hs H σ ρ) {a:Addr} {ho:HO} (h1:Hs a=none) (h2:B1 a=none) (h3:∀(i:Nat) (o:O),ρ[i]?=some (some (.own o))->σ[i]?≠some (some (.ref a))):RE Γ B0 B1 Hs (upd H a ho) σ ρ where
 tb:=r.tb
 b:=⟨r.b.s,fun b u z=>by rw [a0J (a0C z h2)];exact r.b.h _ _ z,fun b u z=>by rw [a0J (a0C z h1)];exact r.b.i _ _ z,r.b.n⟩
 sh:=r.sh
 own:=fun i o e=>by
  obtain ⟨c,hc,f1,f2,f3,f4,f5⟩:=r.own i o e
  refine ⟨c,hc,f1,f2,f3,?_,f5⟩
  rw [a0J]
  ·exact f4
  ·intro z
   subst z
   exact h3 i o e f1
 apart:=r.apart
 len:=r.len
end
theorem Grow.other {Hs H Hs' H':Hp} {a:Addr} {ho:HO} (g:Grow Hs H Hs' H') (h0:H a=none) (h1:Hs' a=none):Grow Hs H Hs' (upd H' a ho):=
 ⟨g.s,fun b u z=>by rw [a0J (a0C z h0)];exact g.h _ _ z,fun b u z=>by rw [a0J (a0C z h1)];exact g.i _ _ z,g.n⟩
theorem Grow.none {Hs H Hs' H':Hp} {a:Addr} {ho:HO} (g:Grow Hs H Hs' H') (h:Hs a=Option.none) (h':H a=some ho):Hs' a=Option.none:=by
 cases z:Hs' a with
 | none=>rfl
 | some u=>
  rcases g.n a u z with w|w
  ·rw [h] at w;cases w
  ·rw [h'] at w;cases w
def BdIn (js:List Nat) (bd:MB):Prop:=∀d ρ ρ',bd d ρ=some ρ'->ρ'.length=ρ.length/\∀i:Nat,i∉js->ρ'[i]?=ρ[i]?
theorem a07 (j:Nat):BdIn [j] (a1v j):=fun d ρ ρ' e=>by
 cases e
 exact ⟨by rw [length_set],fun i hi=>getElem?_set_ne fun z=>hi (by simp [z])⟩
section
variable {Γ:Ct} {W:XW} {js:List Nat} {gi:MI} {bd:MB} {cond elt:ME}
theorem b2A {tt:TT} (ht:∀σ H Q,tT Γ W cond σ H Q->tt σ H Q) (hb:BdIn js bd) {σ:L2.St} {H:Hp} {Q:VK} (t:tD Γ W (a1R js gi bd cond elt) σ H Q):
  tComp js (tI Γ W gi) (tB3 Γ js bd) tt (tD Γ W elt) σ H Q:=by
 obtain ⟨B0,B1,Hs,ρ,r,re,e,q⟩:=t
 unfold a1R at e
 cases h:gi ρ with
 | none=>rw [h] at e;cases e
 | some x=>
  rw [h] at e
  refine ⟨B0,B1,Hs,ρ,x,re,h,?_⟩
  cases x with
  | exc y=>cases e;exact q
  | ok ds=>
   intro J Hs1 H1 g1 w a ha
   dsimp only at e
   have hlim:ds.length<=lim:=by
    by_cases z:ds.length<=lim
    ·exact z
    ·rw [if_neg z] at e;cases e
   rw [if_pos hlim] at e
   have hs1:Hs1 a=none:=g1.i.free ha
   have h0:H a=none:=g1.h.free ha
   have hb1:B1 a=none:=re.b.h.free h0
   have re1:RE Γ B0 B1 Hs1 H1 (a4n js σ) (a1c js ρ):=(re.grow g1).sub (by rw [b0t,a5S,re.len]) fun i s z=>by
    obtain ⟨z1,z2⟩:=a7c js ρ i s z
    exact ⟨z2,b3a js σ i z1⟩
   have ap1:∀(i:Nat) (o:O),(a1c js ρ)[i]?=some (some (.own o))->(a4n js σ)[i]?≠some (some (.ref a)):=fun i o z z'=>by
    obtain ⟨c,hc,f1,_,_,f4,_⟩:=re1.own i o z
    rw [z'] at f1
    cases f1
    rw [ha] at f4
    cases f4
   refine ⟨fun i m σ2 ys H2=>m=ds.length - i/\i<=ds.length/\∃Hs2 acc,Same Hs1 Hs2/\Grow Hs H Hs2 H2/\RE Γ B0 B1 Hs2 H2 σ2 (a1c js ρ)/\Hs2 a=none/\
    (∀(i:Nat) (o:O),(a1c js ρ)[i]?=some (some (.own o))->σ2[i]?≠some (some (.ref a)))/\H2 a=some (.lst ys)/\RepL Γ Hs2 acc ys/\a6I bd cond elt (a1c js ρ) (ds.drop i) acc=some r/\acc.length<=i,⟨_,rfl,zero_le _,Hs1,[],.refl _,g1.other h0 hs1,re1.other hs1 hb1 ap1,hs1,ap1,a0O,.nil,e,zero_le _⟩,?_⟩
   rintro i m σ2 ys H2 ⟨rfl,hi,Hs2,acc,sm,g2,re2,ha2,ap,hy,rl,ec,hacc⟩
   refine ⟨hy,?_⟩
   by_cases hlt:i<ds.length
   ·refine .inr ⟨w.go i Hs2 H2 hlt sm re2.b.i,fun x H3 y=>?_⟩
    obtain ⟨d,Hs3,ed,g3,rp⟩:=w.yld i Hs2 H2 x H3 hlt sm re2.b.i y
    have hd:ds.drop i=d::ds.drop (i+1):=by
     rw [List.drop_eq_getElem_cons hlt]
     congr 1
     rw [getElem?_eq_getElem hlt] at ed
     exact Option.some.inj ed
    rw [hd] at ec
    unfold a6I at ec
    cases hbd:bd d (a1c js ρ) with
    | none=>rw [hbd] at ec;cases ec
    | some ρ1=>
     rw [hbd] at ec
     dsimp only at ec
     obtain ⟨bl,bo⟩:=hb d _ ρ1 hbd
     refine ⟨B0,B1,Hs3,a1c js ρ,d,ρ1,re2.grow g3,rp,hbd,fun σ4 re4 hσ=>?_⟩
     have low:∀{Hs5 H5:Hp},RE Γ B0 B1 Hs5 H5 σ4 ρ1->RE Γ B0 B1 Hs5 H5 σ4 (a1c js ρ):=fun r5=>r5.sub (by rw [←bl,r5.len]) fun k s z=>by
      obtain ⟨z1,_⟩:=a7c js ρ k s z
      exact ⟨(bo k z1).trans z,rfl⟩
     have ap4:∀(k:Nat) (o:O),(a1c js ρ)[k]?=some (some (.own o))->σ4[k]?≠some (some (.ref a)):=fun k o z=>by
      obtain ⟨z1,_⟩:=a7c js ρ k _ z
      rw [hσ k z1]
      exact ap k o z
     have ha3:=g3.none ha2 hy
     have hy3:=g3.h _ _ hy
     refine ht _ _ _ ?_
     cases hcv:cond ρ1 with
     | none=>rw [hcv] at ec;cases ec
     | some c=>
      rw [hcv] at ec
      refine ⟨B0,B1,Hs3,ρ1,c,re4,hcv,?_⟩
      cases c with
      | exc x=>
       cases ec
       exact fun Hs' H' g'=>q Hs' H' ((g2.trans g3).trans g')
      | ok s=>
       obtain ⟨b,eb,ec2⟩:=a4X (show asB s.val _=some r from ec)
       refine ⟨b,eb,fun Hs5 H5 g5=>?_⟩
       have ha5:=g5.none ha3 hy3
       have hy5:=g5.h _ _ hy3
       have re5:=re4.grow g5
       cases b with
       | false=>
        rw [if_neg Bool.false_ne_true] at ec2
        refine iteF ?_
        exact ⟨_,by omega,rfl,hlt,Hs5,acc,(sm.trans g3.s).trans g5.s,(g2.trans g3).trans g5,low re5,ha5,ap4,hy5,rl.mono (g3.s.trans g5.s),ec2,by omega⟩
       | true=>
        rw [if_pos rfl] at ec2
        refine iteT ?_
        refine (a1x (k:=fun x=>a6I bd cond elt (a1c js ρ) (ds.drop (i+1)) (acc++[x])) re5 ec2 ((q.grow (g2.trans g3)).grow g5)).mono fun v H6 ⟨Hs6,z,g6,re6,rp6,ec6,q6⟩=>?_
        have ha6:=g6.none ha5 hy5
        have hy6:=g6.h _ _ hy5
        have hlen:acc.length=ys.length:=rl.length
        have hbig:ys.length<sizeLine:=lt_of_lt_of_le (by omega:ys.length<lim) (by decide)
        refine ⟨hy6,hbig,_,by omega,rfl,hlt,Hs6,acc++[z],((sm.trans g3.s).trans g5.s).trans g6.s,(((g2.trans g3).trans g5).trans g6).other h0 ha6,(low re6).other ha6 hb1 ap4,ha6,ap4,a0O,(rl.mono ((g3.s.trans g5.s).trans g6.s)).append (.cons rp6 .nil),ec6,by rw [length_append,length_singleton];omega⟩
   ·have ei:i=ds.length:=by omega
    subst ei
    rw [List.drop_length] at ec
    unfold a6I at ec
    split at ec
    ·cases ec
     exact .inl ⟨w.stop Hs2 H2 sm re2.b.i,q _ Hs2 H2 g2 ⟨a,_,rfl,h0,ha2,hy,ys,rfl,rl⟩⟩
    ·cases ec
end
section
variable {X:Cx} {Γ:Ct} {W:XW} {scope:Scope} {vars:List Str} {js:List Nat} {elt tg iter c:Expr} {pos:Pos} {gi:MI} {bd:MB} {cond ge:ME}
theorem b5H {σ:L2.St} {H:Hp} {Q:Bool->Hp->Prop} (t:tT Γ W a22 σ H Q):tTrue σ H Q:=by
 obtain ⟨B0,B1,Hs,ρ,r,re,e,q⟩:=t
 cases e
 obtain ⟨b,eb,q⟩:=q
 cases eb
 exact q Hs H (.refl re.b.i)
theorem a2S (hb:BdIn js bd) (hc:a2x scope X.env.scope vars=true) (hj:a5V X.N vars js=true) (hcalm:X.calm=true) (hi:PID X Γ W tg iter gi)
  (hg:∀fp s H a,PBD (a21 X scope fp s H a) Γ tg js bd) (he:∀fp s H a,PD (a21 X scope fp s H a) Γ W elt ge) (hs:∀x,foldedSetIterable iter X.env x=pure x:=by intro _;rfl):
  PD X Γ W (.ListComp elt [⟨tg,iter,[],0⟩] scope pos) (a1R js gi bd a22 ge):=
 PE.imp (pe_comp hc hj hcalm hi hg (fun _ _ _ _=>b6l) he hs) fun _ _ _ _ _ _ t=>b2A (fun _ _ _ z=>b5H z) hb t
variable {i:Nat} {x:Str} {pos' spos:Pos}
theorem a7O {st:Stmt} {t:TE} {ge:ME} (h:PS X st (tAsg t (b69 i))) (ht:∀σ H Q,tD Γ W ge σ H Q->t σ H Q) (hi:i<X.N.length):PSD X Γ W st (sSet i ge):=PS.imp h fun pins s σ H D I ⟨B0,B1,Hs,ρ,o,re,e,q⟩=>by
 refine ht _ _ _ ((tD_O re e q).mono fun v H1 ⟨Hs1,s,g1,rs,e1⟩=>?_)
 cases e1
 exact q _ Hs1 H1 g1.s (re.setS g1 (by rw [I.len];exact hi) rs)
theorem psd_comp (hN:X.N.Nodup) (hi':X.N[i]?=some x) (hx:Loc X.env.scope x) (hb:BdIn js bd) (hc:a2x scope X.env.scope vars=true) (hj:a5V X.N vars js=true) (hcalm:X.calm=true) (hi:PID X Γ W tg iter gi)
  (hg:∀fp s H a,PBD (a21 X scope fp s H a) Γ tg js bd) (he:∀fp s H a,PD (a21 X scope fp s H a) Γ W elt ge)
  (hsw:swapsWith (.ListComp elt [⟨tg,iter,[],0⟩] scope pos) (some (.Name x pos')) spos.line X.env=pure true:=by rfl) (hs:∀x,foldedSetIterable iter X.env x=pure x:=by intro _;rfl)
  (hf:X.fn x=true\/X.env.scope.names.lookup x=some .local:=by first|exact .inl rfl|exact .inr rfl|assumption):
  PSD X Γ W (.Assign [.Name x pos'] (.ListComp elt [⟨tg,iter,[],0⟩] scope pos) spos) (sSet i (a1R js gi bd a22 ge)):=
 a7O (a8Z hN hi' hx hc hj hcalm hi hg (fun _ _ _ _=>b6l) he hsw hs hf) (fun _ _ _ t=>b2A (fun _ _ _ z=>b5H z) hb t) (List.getElem?_eq_some_iff.mp hi').1
theorem a8Y (hN:X.N.Nodup) (hi':X.N[i]?=some x) (hx:Loc X.env.scope x) (hb:BdIn js bd) (hc:a2x scope X.env.scope vars=true) (hj:a5V X.N vars js=true) (hcalm:X.calm=true) (hi:PID X Γ W tg iter gi)
  (hg:∀fp s H a,PBD (a21 X scope fp s H a) Γ tg js bd) (ht:∀fp s H a,PTD (a21 X scope fp s H a) Γ W c cond) (he:∀fp s H a,PD (a21 X scope fp s H a) Γ W elt ge)
  (hsw:swapsWith (.ListComp elt [⟨tg,iter,[c],0⟩] scope pos) (some (.Name x pos')) spos.line X.env=pure true:=by rfl) (hs:∀x,foldedSetIterable iter X.env x=pure x:=by intro _;rfl)
  (hf:X.fn x=true\/X.env.scope.names.lookup x=some .local:=by first|exact .inl rfl|exact .inr rfl|assumption):
  PSD X Γ W (.Assign [.Name x pos'] (.ListComp elt [⟨tg,iter,[c],0⟩] scope pos) spos) (sSet i (a1R js gi bd cond ge)):=
 a7O (a8Z hN hi' hx hc hj hcalm hi hg (fun fp s H a=>pif_one (ht fp s H a)) he hsw hs hf) (fun _ _ _ t=>b2A (fun _ _ _ z=>z) hb t) (List.getElem?_eq_some_iff.mp hi').1
theorem a5Z {l:Expr} {g:ME} (hK:X.K=Γ.K) (h:PD X Γ W l g):PID X Γ W tg l (iSeq g):=PI.imp (pi_seq h) fun _ _ σ H Q _ ⟨B0,B1,Hs,ρ,r,re,e,q⟩=>by
 unfold iSeq at e
 cases hg:g ρ with
 | none=>rw [hg] at e;cases e
 | some y=>
  rw [hg] at e
  cases y with
  | exc z=>
   cases e
   exact ⟨B0,B1,Hs,ρ,_,re,hg,q⟩
  | ok s=>
   refine ⟨B0,B1,Hs,ρ,.ok s,re,hg,fun v Hs' H' g' rs=>?_⟩
   obtain ⟨Hs2,g2,_,rp⟩:=rs.share g'
   dsimp only at e
   cases hv:s.val with
   | lst ds=>
    rw [hv] at e rp
    cases e
    obtain ⟨a,xs,rfl,rd,rl⟩:=a1M.mp rp
    rw [←hK] at rd
    exact ⟨a,rfl,.inl ⟨⟨xs,Same.seq g2.i rd⟩,q _ Hs2 H' g2 (b5u rd rl)⟩⟩
   | tup ds=>
    rw [hv] at e rp
    cases e
    obtain ⟨a,xs,rfl,sq,rl⟩:=a1k.mp rp
    rw [←hK] at sq
    exact ⟨a,rfl,.inr ⟨⟨xs,a1P g2.i sq⟩,q _ Hs2 H' g2 (walk_tup sq rl)⟩⟩
   | non=>rw [hv] at e;cases e
   | bl _=>rw [hv] at e;cases e
   | int _=>rw [hv] at e;cases e
   | str _=>rw [hv] at e;cases e
   | fn _ _=>rw [hv] at e;cases e
   | obj _ _ _=>rw [hv] at e;cases e
theorem tD_I {B0 B1 Hs H:Hp} {σ:L2.St} {ρ:MEnv} {g:ME} {k:D->Option RI} {r:RI} {Q:It->Hp->Prop} (re:RE Γ B0 B1 Hs H σ ρ) (e:iArg g ρ k=some r) (q:IQ Γ W Hs H r Q):
  tD Γ W g σ H (fun v H1=>∃Hs1 d,Grow Hs H Hs1 H1/\RE Γ B0 B1 Hs1 H1 σ ρ/\Rep Γ Hs1 d v/\k d=some r/\IQ Γ W Hs1 H1 r Q):=by
 unfold iArg at e
 cases h:g ρ with
 | none=>rw [h] at e;cases e
 | some x=>
  rw [h] at e
  refine ⟨B0,B1,Hs,ρ,x,re,h,?_⟩
  cases x with
  | exc y=>cases e;exact q
  | ok s=>
   intro v Hs' H' g' rs
   obtain ⟨Hs'',g2,_,rp⟩:=rs.share g'
   refine ⟨Hs'',s.val,g2,re.grow g2,rp,e,?_⟩
   cases r with
   | ok ds=>exact fun J Hs3 H3 g3 w=>q J Hs3 H3 (g2.trans g3) w
   | exc y=>exact fun Hs3 H3 g3=>q Hs3 H3 (g2.trans g3)
theorem a4M {i:Int} (h:a5k i=true):-(2 ^ 62)<=i/\i<2 ^ 62:=by
 unfold a5k at h
 simpa using h
theorem a00 {a:Expr} {g:ME} {p p':Pos} (hg:Gl X "range") (hm:X.mg "range" = none) (h:PD X Γ W a g) (hst:starEach (a::[]) X.env=(false,eval a X.env)::starEach [] X.env:=by rfl) (hs:starEach [a] X.env=[(false,eval a X.env)]:=by rfl):
  PID X Γ W tg (.Call (.Name "range" p) [a] [] p') (a05 g):=PI.imp (b6n hg hm (a1N h a4Z hst) hs) fun _ _ σ H Q _ ⟨B0,B1,Hs,ρ,r,re,e,q⟩=>by
 refine (tD_I re e q).mono fun v H1 ⟨Hs1,d,g1,re1,rp,e1,q1⟩=>?_
 cases d with
 | int hi=>
  dsimp only at e1
  split at e1
  ·rename_i hr
   cases e1
   obtain ⟨h1,h2⟩:=a4M hr
   refine ⟨hi,by rw [a0m.mp rp],h1,h2,q1 _ Hs1 H1 (.refl re1.b.i) ?_⟩
   have w:=b3n (Γ:=Γ) (Hs0:=Hs1) 0 hi
   rw [Int.sub_zero] at w
   exact w
  ·cases e1
 | non=>cases e1
 | bl _=>cases e1
 | str _=>cases e1
 | tup _=>cases e1
 | lst _=>cases e1
 | fn _ _=>cases e1
 | obj _ _ _=>cases e1
theorem b4C {a b:Expr} {ga gb:ME} {p p':Pos} (hg:Gl X "range") (hm:X.mg "range" = none) (ha:PD X Γ W a ga) (hb:PD X Γ W b gb) (hst:starEach [a,b] X.env=(false,eval a X.env)::starEach [b] X.env:=by rfl) (hst2:starEach [b] X.env=(false,eval b X.env)::starEach [] X.env:=by rfl)
  (hs:starEach [a,b] X.env=[(false,eval a X.env),(false,eval b X.env)]:=by rfl) (hs2:starEach [b] X.env=[(false,eval b X.env)]:=by rfl):
  PID X Γ W tg (.Call (.Name "range" p) [a,b] [] p') (b0o ga gb):=PI.imp (b6m hg hm (a1N ha (a1N hb a4Z hst2) hst) hs hs2) fun _ _ σ H Q _ ⟨B0,B1,Hs,ρ,r,re,e,q⟩=>by
 refine (tD_I re e q).mono fun v H1 ⟨Hs1,d,g1,re1,rp,e1,q1⟩=>?_
 refine (tD_I re1 e1 q1).mono fun u H2 ⟨Hs2,d2,g2,re2,rp2,e2,q2⟩=>?_
 cases d with
 | int lo=>
  cases d2 with
  | int hi=>
   dsimp only at e2
   split at e2
   ·rename_i hr
    cases e2
    obtain ⟨h1,h2⟩:=a4M hr.1
    obtain ⟨h3,h4⟩:=a4M hr.2
    exact ⟨lo,hi,by rw [a0m.mp rp,a0m.mp rp2],⟨h1,h2,h3,h4⟩,q2 _ Hs2 H2 (.refl re2.b.i) (b3n lo hi)⟩
   ·cases e2
  | non=>cases e2
  | bl _=>cases e2
  | str _=>cases e2
  | tup _=>cases e2
  | lst _=>cases e2
  | fn _ _=>cases e2
  | obj _ _ _=>cases e2
 | non=>cases e2
 | bl _=>cases e2
 | str _=>cases e2
 | tup _=>cases e2
 | lst _=>cases e2
 | fn _ _=>cases e2
 | obj _ _ _=>cases e2
end
section
variable {X:Cx} {Γ:Ct} {W:XW}
theorem retS {Hs H:Hp} {Q:VK} {d:D} (sm:Same Hs H) (q:RQ Γ W Hs H (.ok (.sh d)) Q) {v:V} (rp:Rep Γ Hs d v):Q v H:=q v Hs H (.refl sm) rp
theorem b2D {Hs H:Hp} {Q:VK} {ds:List D} {xs:List V} (sm:Same Hs H) (q:RQ Γ W Hs H (.ok (.sh (.tup ds))) Q) (rl:RepL Γ Hs ds xs) {p:Addr} (hp:H p=none):Q (.ref p) (upd H p (.tup xs)):=
 q _ (upd Hs p (.tup xs)) _ (.new sm hp) (RepS.of (a1k.mpr ⟨p,xs,rfl,.of a0O,rl.mono (a1E (sm.free hp))⟩))
theorem a7N {Hs H:Hp} {Q:VK} {ds:List D} {xs:List V} (sm:Same Hs H) (q:RQ Γ W Hs H (.ok (.own (.lst ds))) Q) (rl:RepL Γ Hs ds xs) {p:Addr} (hp:H p=none):Q (.ref p) (upd H p (.lst xs)):=
 q _ Hs _ (.newOwn sm hp) ⟨p,_,rfl,hp,sm.free hp,a0O,xs,rfl,rl⟩
theorem a6y {n:Nat} (h:n<=lim):n<=sizeLine:=le_trans h (by decide)
theorem a1q {α:Type} {c:Prop} [Decidable c] {a r:α} (h:(if c then some a else none)=some r):c/\a=r:=by
 by_cases z:c
 ·rw [if_pos z] at h;exact ⟨z,Option.some.inj h⟩
 ·rw [if_neg z] at h;cases h
theorem a0n (hK:X.K=Γ.K):OpR X (binaryOp .Add) (rD Γ W dAdd):=fun pins s σ H x y v u Q I rx ry ⟨Hs,d1,d2,r,sm,r1,r2,e,q⟩=>by
 cases d1 with
 | int i=>
  cases d2 with
  | int j=>cases e;exact op_add pins s σ H x y v u Q I rx ry ⟨i,j,a0m.mp r1,a0m.mp r2,retS sm q (a0m.mpr rfl)⟩
  | non=>cases e
  | bl _=>cases e
  | str _=>cases e
  | tup _=>cases e
  | lst _=>cases e
  | fn _ _=>cases e
  | obj _ _ _=>cases e
 | str i=>
  cases d2 with
  | str j=>
   obtain ⟨hl,rfl⟩:=a1q (c:=i.length+j.length<=lim) e
   exact b4D pins s σ H x y v u Q I rx ry ⟨i,j,a1L.mp r1,a1L.mp r2,a6y hl,retS sm q (a1L.mpr rfl)⟩
  | non=>cases e
  | bl _=>cases e
  | int _=>cases e
  | tup _=>cases e
  | lst _=>cases e
  | fn _ _=>cases e
  | obj _ _ _=>cases e
 | tup ds=>
  cases d2 with
  | tup es=>
   obtain ⟨hl,rfl⟩:=a1q (c:=ds.length+es.length<=lim) e
   obtain ⟨a,xs,rfl,qa,la⟩:=a1k.mp r1
   obtain ⟨b,ys,rfl,qb,lb⟩:=a1k.mp r2
   have qa':SqT X.K H a xs:=by rw [hK];exact a1P sm qa
   have qb':SqT X.K H b ys:=by rw [hK];exact a1P sm qb
   by_cases h0:xs=[]
   ·subst h0
    have e0:ds=[]:=List.length_eq_zero_iff.mp la.length
    subst e0
    exact op_catT0 pins s σ H _ _ v u Q I rx ry ⟨a,b,ys,rfl,rfl,qa',qb',retS sm q (a1k.mpr ⟨b,ys,rfl,qb,lb⟩)⟩
   ·refine op_catT pins s σ H _ _ v u Q I rx ry ⟨a,b,xs,ys,rfl,rfl,qa',qb',h0,by rw [←la.length,←lb.length];exact a6y hl,fun z=>?_,fun z p hp=>b2D sm q (la.append lb) hp⟩
    subst z
    have e0:es=[]:=List.length_eq_zero_iff.mp lb.length
    subst e0
    rw [append_nil] at q
    exact retS sm q (a1k.mpr ⟨a,xs,rfl,qa,la⟩)
  | non=>cases e
  | bl _=>cases e
  | int _=>cases e
  | str _=>cases e
  | lst _=>cases e
  | fn _ _=>cases e
  | obj _ _ _=>cases e
 | lst ds=>
  cases d2 with
  | lst es=>
   obtain ⟨hl,rfl⟩:=a1q (c:=ds.length+es.length<=lim) e
   obtain ⟨a,xs,rfl,qa,la⟩:=a1M.mp r1
   obtain ⟨b,ys,rfl,qb,lb⟩:=a1M.mp r2
   exact op_catR pins s σ H _ _ v u Q I rx ry ⟨a,b,xs,ys,rfl,rfl,by rw [hK];exact Same.seq sm qa,by rw [hK];exact Same.seq sm qb,by rw [←la.length,←lb.length];exact a6y hl,fun p hp=>a7N sm q (la.append lb) hp⟩
  | non=>cases e
  | bl _=>cases e
  | int _=>cases e
  | str _=>cases e
  | tup _=>cases e
  | fn _ _=>cases e
  | obj _ _ _=>cases e
 | non=>cases e
 | bl _=>cases e
 | fn _ _=>cases e
 | obj _ _ _=>cases e
theorem a3F {f:Int->Int->Option R} {g:D->D->Option R} (hg:∀d1 d2,g d1 d2=match d1,d2 with|.int i,.int j=>f i j|_,_=>none) {d1 d2:D} {r:R} (e:g d1 d2=some r):∃i j,d1=.int i/\d2=.int j/\f i j=some r:=by
 rw [hg] at e
 cases d1 with
 | int i=>
  cases d2 with
  | int j=>exact ⟨i,j,rfl,rfl,e⟩
  | non=>cases e
  | bl _=>cases e
  | str _=>cases e
  | tup _=>cases e
  | lst _=>cases e
  | fn _ _=>cases e
  | obj _ _ _=>cases e
 | non=>cases e
 | bl _=>cases e
 | str _=>cases e
 | tup _=>cases e
 | lst _=>cases e
 | fn _ _=>cases e
 | obj _ _ _=>cases e
theorem a69:OpR X (binaryOp .Sub) (rD Γ W dSub):=fun pins s σ H x y v u Q I rx ry ⟨Hs,d1,d2,r,sm,r1,r2,e,q⟩=>by
 obtain ⟨i,j,rfl,rfl,e⟩:=a3F (f:=fun i j=>okI (i - j)) (fun _ _=>rfl) e
 cases e
 exact op_sub pins s σ H x y v u Q I rx ry ⟨i,j,a0m.mp r1,a0m.mp r2,retS sm q (a0m.mpr rfl)⟩
theorem b0Y {i:Int} (h:a5O i=true):-(2 ^ 64)<i/\i<2 ^ 64:=by
 unfold a5O at h
 simpa using h
theorem a01:OpR X (binaryOp .Mod) (rD Γ W dMod):=fun pins s σ H x y v u Q I rx ry ⟨Hs,d1,d2,r,sm,r1,r2,e,q⟩=>by
 obtain ⟨i,j,rfl,rfl,e⟩:=a3F (f:=fun i j=>if 0<j then okI (i % j) else none) (fun _ _=>rfl) e
 obtain ⟨h,rfl⟩:=a1q e
 exact op_mod pins s σ H x y v u Q I rx ry ⟨i,j,a0m.mp r1,a0m.mp r2,h,retS sm q (a0m.mpr rfl)⟩
theorem a5A:OpR X (binaryOp .FloorDiv) (rD Γ W a7t):=fun pins s σ H x y v u Q I rx ry ⟨Hs,d1,d2,r,sm,r1,r2,e,q⟩=>by
 obtain ⟨i,j,rfl,rfl,e⟩:=a3F (f:=fun i j=>if 0<j/\j<1073741824 then okI (i / j) else none) (fun _ _=>rfl) e
 obtain ⟨h,rfl⟩:=a1q e
 exact op_fdiv pins s σ H x y v u Q I rx ry ⟨i,j,a0m.mp r1,a0m.mp r2,h,retS sm q (a0m.mpr rfl)⟩
theorem b3H:OpR X (compareOp .Lt) (rD Γ W dLt):=fun pins s σ H x y v u Q I rx ry ⟨Hs,d1,d2,r,sm,r1,r2,e,q⟩=>by
 obtain ⟨i,j,rfl,rfl,e⟩:=a3F (f:=fun i j=>okB (decide (i<j))) (fun _ _=>rfl) e
 cases e
 exact op_lt pins s σ H x y v u Q I rx ry ⟨i,j,a0m.mp r1,a0m.mp r2,retS sm q (a0D.mpr rfl)⟩
theorem opd_le:OpR X (compareOp .LtE) (rD Γ W dLe):=fun pins s σ H x y v u Q I rx ry ⟨Hs,d1,d2,r,sm,r1,r2,e,q⟩=>by
 obtain ⟨i,j,rfl,rfl,e⟩:=a3F (f:=fun i j=>okB (decide (i<=j))) (fun _ _=>rfl) e
 cases e
 exact op_le pins s σ H x y v u Q I rx ry ⟨i,j,a0m.mp r1,a0m.mp r2,retS sm q (a0D.mpr rfl)⟩
theorem a7W:OpR X (compareOp .Gt) (rD Γ W dGt):=fun pins s σ H x y v u Q I rx ry ⟨Hs,d1,d2,r,sm,r1,r2,e,q⟩=>by
 obtain ⟨i,j,rfl,rfl,e⟩:=a3F (f:=fun i j=>okB (decide (j<i))) (fun _ _=>rfl) e
 cases e
 exact op_gt pins s σ H x y v u Q I rx ry ⟨i,j,a0m.mp r1,a0m.mp r2,retS sm q (a0D.mpr rfl)⟩
theorem a3Z:OpR X (binaryOp .Mult) (rD Γ W dMul):=fun pins s σ H x y v u Q I rx ry ⟨Hs,d1,d2,r,sm,r1,r2,e,q⟩=>by
 cases d1 with
 | int i=>
  cases d2 with
  | int j=>
   obtain ⟨hl,rfl⟩:=a1q (c:=(a5O i || a5O j)=true) e
   refine op_mul pins s σ H x y v u Q I rx ry ⟨i,j,a0m.mp r1,a0m.mp r2,?_,retS sm q (a0m.mpr rfl)⟩
   rcases Bool.or_eq_true_iff.mp hl with h|h
   ·exact .inl (b0Y h)
   ·exact .inr (b0Y h)
  | non=>cases e
  | bl _=>cases e
  | str _=>cases e
  | tup _=>cases e
  | lst _=>cases e
  | fn _ _=>cases e
  | obj _ _ _=>cases e
 | lst _=>cases e
 | non=>cases e
 | bl _=>cases e
 | str _=>cases e
 | tup _=>cases e
 | fn _ _=>cases e
 | obj _ _ _=>cases e
theorem b30 {d1 d2:D} {b:Bool} {x y:V} {H:Hp} (e:eqF d1 d2=some b) (r1:Rep Γ H d1 x) (r2:Rep Γ H d2 y):scal x y=true/\decide (x=y)=b:=by
 cases d1 with
 | non=>
  rw [a2i.mp r1]
  cases d2 with
  | non=>rw [a2i.mp r2];cases e;exact ⟨rfl,rfl⟩
  | bl _=>rw [a0D.mp r2];cases e;exact ⟨rfl,rfl⟩
  | int _=>rw [a0m.mp r2];cases e;exact ⟨rfl,rfl⟩
  | str _=>rw [a1L.mp r2];cases e;exact ⟨rfl,rfl⟩
  | tup _=>cases e
  | lst _=>cases e
  | fn _ _=>cases e
  | obj _ _ _=>cases e
 | bl c=>
  rw [a0D.mp r1]
  cases d2 with
  | non=>rw [a2i.mp r2];cases e;exact ⟨rfl,rfl⟩
  | bl c'=>rw [a0D.mp r2];cases e;exact ⟨rfl,by rw [Bool.eq_iff_iff];simp⟩
  | int _=>cases e
  | str _=>rw [a1L.mp r2];cases e;exact ⟨rfl,rfl⟩
  | tup _=>cases e
  | lst _=>cases e
  | fn _ _=>cases e
  | obj _ _ _=>cases e
 | int c=>
  rw [a0m.mp r1]
  cases d2 with
  | non=>rw [a2i.mp r2];cases e;exact ⟨rfl,rfl⟩
  | bl _=>cases e
  | int c'=>rw [a0m.mp r2];cases e;exact ⟨rfl,by rw [Bool.eq_iff_iff];simp⟩
  | str _=>rw [a1L.mp r2];cases e;exact ⟨rfl,rfl⟩
  | tup _=>cases e
  | lst _=>cases e
  | fn _ _=>cases e
  | obj _ _ _=>cases e
 | str c=>
  rw [a1L.mp r1]
  cases d2 with
  | non=>rw [a2i.mp r2];cases e;exact ⟨rfl,rfl⟩
  | bl _=>rw [a0D.mp r2];cases e;exact ⟨rfl,rfl⟩
  | int _=>rw [a0m.mp r2];cases e;exact ⟨rfl,rfl⟩
  | str c'=>rw [a1L.mp r2];cases e;exact ⟨rfl,by rw [Bool.eq_iff_iff];simp⟩
  | tup _=>cases e
  | lst _=>cases e
  | fn _ _=>cases e
  | obj _ _ _=>cases e
 | tup _=>cases e
 | lst _=>cases e
 | fn _ _=>cases e
 | obj _ _ _=>cases e
theorem a0L:OpR X (compareOp .Eq) (rD Γ W dEq):=fun pins s σ H x y v u Q I rx ry ⟨Hs,d1,d2,r,sm,r1,r2,e,q⟩=>by
 unfold dEq at e
 cases h:eqF d1 d2 with
 | none=>rw [h] at e;cases e
 | some b=>
  rw [h] at e
  cases e
  obtain ⟨h1,h2⟩:=b30 h r1 r2
  exact op_eq pins s σ H x y v u Q I rx ry ⟨h1,by rw [h2];exact retS sm q (a0D.mpr rfl)⟩
theorem a7V:OpR X (compareOp .NotEq) (rD Γ W dNe):=fun pins s σ H x y v u Q I rx ry ⟨Hs,d1,d2,r,sm,r1,r2,e,q⟩=>by
 unfold dNe at e
 cases h:eqF d1 d2 with
 | none=>rw [h] at e;cases e
 | some b=>
  rw [h] at e
  cases e
  obtain ⟨h1,h2⟩:=b30 h r1 r2
  exact op_ne pins s σ H x y v u Q I rx ry ⟨h1,by rw [h2];exact retS sm q (a0D.mpr rfl)⟩
theorem pd_rep {a b:Expr} {ga gb:ME} {pos:Pos} (ha:PD X Γ W a ga) (hb:PD X Γ W b gb):PD X Γ W (.BinOp a .Mult b pos) (eRep ga gb):=PE.imp (pe_op op_rep ha hb) fun _ _ σ H Q _ ⟨B0,B1,Hs,ρ,r,re,e,q⟩=>by
 unfold eRep at e
 cases h:ga ρ with
 | none=>rw [h] at e;cases e
 | some x=>
  rw [h] at e
  refine ⟨B0,B1,Hs,ρ,x,re,h,?_⟩
  cases x with
  | exc y=>cases e;exact q
  | ok s=>
   cases s with
   | sh d=>cases e
   | two _ _ _=>cases e
   | own o=>
    cases o with
    | obj _ _ _=>cases e
    | dic _=>cases e
    | par _ _=>cases e
    | fdic _=>cases e
    | tab _=>cases e
    | lst ds=>
     intro v Hs1 H1 g1 rs
     obtain ⟨p,ho,rfl,h0,h1,h2,xs,rfl,rl⟩:=rs
     refine (a1x (k:=dRep ds) (re.grow g1) e (q.grow g1)).mono fun u H2 ⟨Hs2,d2,g2,re2,rp2,e2,q2⟩=>?_
     cases d2 with
     | int k=>
      obtain ⟨hl,rfl⟩:=a1q (c:=-(2 ^ 60)<=k/\k<2 ^ 60/\ds.length * k.toNat<=lim) e2
      exact ⟨p,k,xs,rfl,a0m.mp rp2,g2.h _ _ h2,by omega,by omega,by rw [←rl.length];exact a6y hl.2.2,fun p hp=>a7N re2.b.i q2 ((rl.mono g2.s).rep _) hp⟩
     | non=>cases e2
     | bl _=>cases e2
     | str _=>cases e2
     | tup _=>cases e2
     | lst _=>cases e2
     | fn _ _=>cases e2
     | obj _ _ _=>cases e2
theorem repL_map {α:Type} {H:Hp} {f:α->D} {g:α->V} (l:List α) (h:∀k,Rep Γ H (f k) (g k)):RepL Γ H (l.map f) (l.map g):=by
 induction l with
 | nil=>exact .nil
 | cons a l ih=>exact .cons (h a) ih
theorem b7w {H:Hp} {ds:List D} {xs:List V} {i:Int} {d:D} (rl:RepL Γ H ds xs) (e:atD ds i=some d):∃x,atI xs i=some x/\Rep Γ H d x:=by
 unfold atD at e
 unfold atI
 have hl:=rl.length
 have e0:ixN xs.length i=ixD ds.length i:=by rw [hl];rfl
 rw [e0]
 cases h:ixD ds.length i with
 | none=>rw [h] at e;cases e
 | some j=>
  rw [h] at e
  exact rl.get e
theorem ixd (hK:X.K=Γ.K):IxR X (rD Γ W dIx):=fun value slice pins s σ H x y v u Q I rx ry ⟨Hs,d1,d2,r,sm,r1,r2,e,q⟩ hs=>by
 cases d2 with
 | int i=>
  have ey:=a0m.mp r2
  cases d1 with
  | tup ds=>
   have e:(atD ds i).bind okD=some r:=e
   cases h:atD ds i with
   | none=>rw [h] at e;cases e
   | some d=>
    rw [h] at e
    cases e
    obtain ⟨a,xs,rfl,qa,la⟩:=a1k.mp r1
    obtain ⟨z,ez,rz⟩:=b7w la h
    exact ix_tup value slice pins s σ H _ _ v u Q I rx ry ⟨a,xs,i,z,rfl,ey,by rw [hK];exact a1P sm qa,ez,retS sm q rz⟩ hs
  | lst ds=>
   have e:(atD ds i).bind okD=some r:=e
   cases h:atD ds i with
   | none=>rw [h] at e;cases e
   | some d=>
    rw [h] at e
    cases e
    obtain ⟨a,xs,rfl,qa,la⟩:=a1M.mp r1
    obtain ⟨z,ez,rz⟩:=b7w la h
    exact ix_list value slice pins s σ H _ _ v u Q I rx ry ⟨a,xs,i,z,rfl,ey,by rw [hK];exact Same.seq sm qa,ez,retS sm q rz⟩ hs
  | str z=>
   have e':(if z.length<=lim then (atD z.cps.toList i).bind (fun c=>okD (.str ⟨#[c]⟩)) else none)=some r:=e
   by_cases hl:z.length<=lim
   ·rw [if_pos hl] at e'
    cases h:atD z.cps.toList i with
    | none=>rw [h] at e';cases e'
    | some c=>
     rw [h] at e'
     cases e'
     exact ix_str value slice pins s σ H _ _ v u Q I rx ry ⟨z,i,c,a1L.mp r1,ey,a6y hl,h,retS sm q (a1L.mpr rfl)⟩ hs
   ·rw [if_neg hl] at e';cases e'
  | non=>cases e
  | bl _=>cases e
  | int _=>cases e
  | fn _ _=>cases e
  | obj _ _ _=>cases e
 | non=>cases d1 <;> cases e
 | bl _=>cases d1 <;> cases e
 | str _=>cases d1 <;> cases e
 | tup _=>cases d1 <;> cases e
 | lst _=>cases d1 <;> cases e
 | fn _ _=>cases d1 <;> cases e
 | obj _ _ _=>cases d1 <;> cases e
theorem a57 {F:D->Option R} {ds:List D} {r:R} (h:f1 F ds=some r):∃d,ds=[d]/\F d=some r:=by
 match ds,h with
 | [d],h=>exact ⟨d,rfl,h⟩
theorem f2_some {F:D->D->Option R} {ds:List D} {r:R} (h:f2 F ds=some r):∃d e,ds=[d,e]/\F d e=some r:=by
 match ds,h with
 | [d,e],h=>exact ⟨d,e,rfl,h⟩
theorem b1a {H:Hp} {d:D} {xs:List V} (h:RepL Γ H [d] xs):∃x,xs=[x]/\Rep Γ H d x:=by
 obtain ⟨x,r,e,q,t⟩:=a03.mp h
 rw [a2Q.mp t] at e
 exact ⟨x,e,q⟩
theorem a1i (hK:X.K=Γ.K):a2M X (.builtin "len") (spR Γ W (f1 dLen)):=fun pins s σ H xs us Q I rs ⟨Hs,ds,r,sm,rl,e,q,tb⟩=>by
 obtain ⟨d,rfl,e⟩:=a57 e
 obtain ⟨x,rfl,rp⟩:=b1a rl
 cases d with
 | tup ds=>
  cases e
  obtain ⟨a,ys,rfl,qa,la⟩:=a1k.mp rp
  exact a7n pins s σ H _ us Q I rs ⟨a,ys,rfl,.inr (by rw [hK];exact a1P sm qa),by rw [←la.length];exact retS sm q (a0m.mpr rfl)⟩
 | lst ds=>
  cases e
  obtain ⟨a,ys,rfl,qa,la⟩:=a1M.mp rp
  exact a7n pins s σ H _ us Q I rs ⟨a,ys,rfl,.inl (by rw [hK];exact Same.seq sm qa),by rw [←la.length];exact retS sm q (a0m.mpr rfl)⟩
 | str z=>
  obtain ⟨hl,rfl⟩:=a1q (c:=z.length<=lim) e
  rw [a1L.mp rp] at rs
  exact b17 pins s σ H _ us Q I rs ⟨z,rfl,a6y hl,retS sm q (a0m.mpr rfl)⟩
 | non=>cases e
 | bl _=>cases e
 | int _=>cases e
 | fn _ _=>cases e
 | obj _ _ _=>cases e
theorem cd_sum (hK:X.K=Γ.K) (hc:X.calm=true):a2M X (.builtin "sum") (spR Γ W (f1 dSum)):=fun pins s σ H xs us Q I rs ⟨Hs,ds,r,sm,rl,e,q,tb⟩=>by
 obtain ⟨d,rfl,e⟩:=a57 e
 obtain ⟨x,rfl,rp⟩:=b1a rl
 cases d with
 | lst ds=>
  have e:(intsOf ds).bind (fun ns=>okI ns.sum)=some r:=e
  cases h:intsOf ds with
  | none=>rw [h] at e;cases e
  | some ns=>
   rw [h] at e
   cases e
   obtain ⟨a,ys,rfl,qa,la⟩:=a1M.mp rp
   have ey:=la.intsOf h
   subst ey
   exact b7n hc pins s σ H _ us Q I rs ⟨a,ns,rfl,by rw [hK];exact Same.seq sm qa,retS sm q (a0m.mpr rfl)⟩
 | tup _=>cases e
 | str _=>cases e
 | non=>cases e
 | bl _=>cases e
 | int _=>cases e
 | fn _ _=>cases e
 | obj _ _ _=>cases e
theorem cd_all (hK:X.K=Γ.K) (hc:X.calm=true):a2M X (.builtin "all") (spR Γ W (f1 dAll)):=fun pins s σ H xs us Q I rs ⟨Hs,ds,r,sm,rl,e,q,tb⟩=>by
 obtain ⟨d,rfl,e⟩:=a57 e
 obtain ⟨x,rfl,rp⟩:=b1a rl
 cases d with
 | lst ds=>
  have e:(blsOf ds).bind (fun bs=>okB (bs.all id))=some r:=e
  cases h:blsOf ds with
  | none=>rw [h] at e;cases e
  | some ns=>
   rw [h] at e
   cases e
   obtain ⟨a,ys,rfl,qa,la⟩:=a1M.mp rp
   have ey:=la.blsOf h
   subst ey
   exact b7r hc pins s σ H _ us Q I rs ⟨a,ns,rfl,by rw [hK];exact Same.seq sm qa,retS sm q (a0D.mpr rfl)⟩
 | tup _=>cases e
 | str _=>cases e
 | non=>cases e
 | bl _=>cases e
 | int _=>cases e
 | fn _ _=>cases e
 | obj _ _ _=>cases e
theorem a3H (hK:X.K=Γ.K):a2M X (.type "tuple") (spR Γ W (f1 a40)):=fun pins s σ H xs us Q I rs ⟨Hs,ds,r,sm,rl,e,q,tb⟩=>by
 obtain ⟨d,rfl,e⟩:=a57 e
 obtain ⟨x,rfl,rp⟩:=b1a rl
 cases d with
 | tup ds=>
  cases e
  obtain ⟨a,ys,rfl,qa,la⟩:=a1k.mp rp
  exact a6L pins s σ H _ us Q I rs ⟨a,ys,rfl,.inr ⟨by rw [hK];exact a1P sm qa,retS sm q rp⟩⟩
 | lst ds=>
  cases e
  obtain ⟨a,ys,rfl,qa,la⟩:=a1M.mp rp
  exact a6L pins s σ H _ us Q I rs ⟨a,ys,rfl,.inl ⟨by rw [hK];exact Same.seq sm qa,fun p hp=>b2D sm q la hp⟩⟩
 | str _=>cases e
 | non=>cases e
 | bl _=>cases e
 | int _=>cases e
 | fn _ _=>cases e
 | obj _ _ _=>cases e
theorem b0z (hK:X.K=Γ.K):a2M X (.type "list") (spR Γ W (f1 b7i)):=fun pins s σ H xs us Q I rs ⟨Hs,ds,r,sm,rl,e,q,tb⟩=>by
 obtain ⟨d,rfl,e⟩:=a57 e
 obtain ⟨x,rfl,rp⟩:=b1a rl
 cases d with
 | tup ds=>
  cases e
  obtain ⟨a,ys,rfl,qa,la⟩:=a1k.mp rp
  exact a7m pins s σ H _ us Q I rs ⟨a,ys,rfl,.inr (by rw [hK];exact a1P sm qa),fun p hp=>a7N sm q la hp⟩
 | lst ds=>
  cases e
  obtain ⟨a,ys,rfl,qa,la⟩:=a1M.mp rp
  exact a7m pins s σ H _ us Q I rs ⟨a,ys,rfl,.inl (by rw [hK];exact Same.seq sm qa),fun p hp=>a7N sm q la hp⟩
 | str _=>cases e
 | non=>cases e
 | bl _=>cases e
 | int _=>cases e
 | fn _ _=>cases e
 | obj _ _ _=>cases e
theorem pd_isN {a:Expr} {g:ME} {j pos pos'} (h:PD X Γ W a g):PD X Γ W (.Compare a [.Is] [.Constant .none j pos'] pos) (eUn dIsN g):=PE.imp (pe_cmp (pc_isN h)) fun _ _ σ H Q _ ⟨B0,B1,Hs,ρ,r,re,e,q⟩=>by
 refine (a1x re e q).mono fun v H1 ⟨Hs1,d,g1,re1,rp,e1,q1⟩=>?_
 cases d with
 | non=>cases e1;rw [a2i.mp rp];exact q1 _ Hs1 H1 (.refl re1.b.i) (RepS.of (a0D.mpr rfl))
 | bl _=>cases e1;rw [a0D.mp rp];exact q1 _ Hs1 H1 (.refl re1.b.i) (RepS.of (a0D.mpr rfl))
 | int _=>cases e1;rw [a0m.mp rp];exact q1 _ Hs1 H1 (.refl re1.b.i) (RepS.of (a0D.mpr rfl))
 | str _=>cases e1;rw [a1L.mp rp];exact q1 _ Hs1 H1 (.refl re1.b.i) (RepS.of (a0D.mpr rfl))
 | tup _=>cases e1;obtain ⟨a,_,rfl,_⟩:=a1k.mp rp;exact q1 _ Hs1 H1 (.refl re1.b.i) (RepS.of (a0D.mpr rfl))
 | lst _=>cases e1;obtain ⟨a,_,rfl,_⟩:=a1M.mp rp;exact q1 _ Hs1 H1 (.refl re1.b.i) (RepS.of (a0D.mpr rfl))
 | fn _ _=>cases e1;obtain ⟨a,_,rfl,_⟩:=b57.mp rp;exact q1 _ Hs1 H1 (.refl re1.b.i) (RepS.of (a0D.mpr rfl))
 | obj _ _ _=>cases e1;obtain ⟨a,_,_,rfl,_⟩:=a5Y.mp rp;exact q1 _ Hs1 H1 (.refl re1.b.i) (RepS.of (a0D.mpr rfl))
theorem ptd_isN {a:Expr} {g:ME} {j pos pos'} (h:PD X Γ W a g):PTD X Γ W (.Compare a [.Is] [.Constant .none j pos'] pos) (eUn dIsN g):=PT.imp (b6c (pc_isN h)) fun _ _ σ H Q _ t=>by
 have t':=b5I t
 obtain ⟨B0,B1,Hs,ρ,r,re,e,q⟩:=t'
 refine (a1x re e q).mono fun v H1 ⟨Hs1,d,g1,re1,rp,e1,q1⟩=>?_
 cases d with
 | non=>cases e1;rw [a2i.mp rp];exact q1 _ Hs1 H1 (.refl re1.b.i) (RepS.of (a0D.mpr rfl))
 | bl _=>cases e1;rw [a0D.mp rp];exact q1 _ Hs1 H1 (.refl re1.b.i) (RepS.of (a0D.mpr rfl))
 | int _=>cases e1;rw [a0m.mp rp];exact q1 _ Hs1 H1 (.refl re1.b.i) (RepS.of (a0D.mpr rfl))
 | str _=>cases e1;rw [a1L.mp rp];exact q1 _ Hs1 H1 (.refl re1.b.i) (RepS.of (a0D.mpr rfl))
 | tup _=>cases e1;obtain ⟨a,_,rfl,_⟩:=a1k.mp rp;exact q1 _ Hs1 H1 (.refl re1.b.i) (RepS.of (a0D.mpr rfl))
 | lst _=>cases e1;obtain ⟨a,_,rfl,_⟩:=a1M.mp rp;exact q1 _ Hs1 H1 (.refl re1.b.i) (RepS.of (a0D.mpr rfl))
 | fn _ _=>cases e1;obtain ⟨a,_,rfl,_⟩:=b57.mp rp;exact q1 _ Hs1 H1 (.refl re1.b.i) (RepS.of (a0D.mpr rfl))
 | obj _ _ _=>cases e1;obtain ⟨a,_,_,rfl,_⟩:=a5Y.mp rp;exact q1 _ Hs1 H1 (.refl re1.b.i) (RepS.of (a0D.mpr rfl))
def a7v (K:Frag) (T:String):Prop:=∀t∈["NoneType","bool","int","str","tuple","list"],kitOne K (.type t) (.type T)=some (t == T || (t == "bool" && T == "int"))
theorem tD_isT {T:String} {g:ME} (hK:X.K=Γ.K) (h:a7v X.K T) {σ:L2.St} {H:Hp} {Q:VK} (t:tD Γ W (eUn (dIsT T) g) σ H Q):
  tD Γ W g σ H fun x H1=>∃y t U b,[x,V.ty T]=[y,V.ty U]/\(TyOf X.K H1 y (.type t)\/(t = "tuple" /\ ∃a xs,y=.ref a/\SqT X.K H1 a xs)\/(t = "list" /\ ∃a xs,y=.ref a/\SqL X.K H1 a xs))/\kitOne X.K (.type t) (.type U)=some b/\Q (.bl b) H1:=by
 obtain ⟨B0,B1,Hs,ρ,r,re,e,q⟩:=t
 refine (a1x re e q).mono fun v H1 ⟨Hs1,d,g1,re1,rp,e1,q1⟩=>?_
 have fin:∀t:String,dIsT T d=okB (t == T || (t == "bool" && T == "int"))->Q (.bl (t == T || (t == "bool" && T == "int"))) H1:=fun t z=>by
  rw [z] at e1
  cases e1
  exact q1 _ Hs1 H1 (.refl re1.b.i) (RepS.of (a0D.mpr rfl))
 cases d with
 | non=>rw [a2i.mp rp];exact ⟨_,"NoneType",T,_,rfl,.inl .non,h _ (by simp),fin _ rfl⟩
 | bl _=>rw [a0D.mp rp];exact ⟨_,"bool",T,_,rfl,.inl (.bl _),h _ (by simp),fin _ rfl⟩
 | int _=>rw [a0m.mp rp];exact ⟨_,"int",T,_,rfl,.inl (.int _),h _ (by simp),fin _ rfl⟩
 | str _=>rw [a1L.mp rp];exact ⟨_,"str",T,_,rfl,.inl (.str _),h _ (by simp),fin _ rfl⟩
 | tup _=>obtain ⟨a,xs,rfl,qa,_⟩:=a1k.mp rp;exact ⟨_,"tuple",T,_,rfl,.inr (.inl ⟨rfl,a,xs,rfl,by rw [hK];exact a1P re1.b.i qa⟩),h _ (by simp),fin _ rfl⟩
 | lst _=>
  obtain ⟨a,xs,rfl,qa,_⟩:=a1M.mp rp
  exact ⟨_,"list",T,_,rfl,.inr (.inr ⟨rfl,a,xs,rfl,by rw [hK];exact Same.seq re1.b.i qa⟩),h _ (by simp),fin _ rfl⟩
 | fn _ _=>cases e1
 | obj _ _ _=>cases e1
theorem a5Q {a:Expr} {g:ME} {T:String} {tn:Str} {p p' pos:Pos} (hK:X.K=Γ.K) (hk:a7v X.K T) (hg:Gl X "isinstance") (hm:X.mg "isinstance" = none) (hg2:Gl X tn) (hm2:X.mg tn=none) (hb:bootBuiltins tn=some (.type T)) (h:PD X Γ W a g)
  (hn:tn ≠ "__name__" := by decide) (hdb:(tn == ("__debug__" : Str))=false:=by decide) (hs1:starEach [a,.Name tn p'] X.env=(false,eval a X.env)::starEach [.Name tn p'] X.env:=by rfl) (hs2:starEach [.Name tn p'] X.env=(false,eval (.Name tn p') X.env)::starEach [] X.env:=by rfl)
  (hpl:(backTo pos (starEach [.Name tn p'] X.env)).any (·.1)=false:=by rfl):PD X Γ W (.Call (.Name "isinstance" p) [a,.Name tn p'] [] pos) (eUn (dIsT T) g):=
 PE.imp (a6l b3j hg hm boot_isinstance (a1N h (a1N (pe_bltn (v:=.ty T) hg2 hm2 hb rfl hn hdb) a4Z hs2) hs1) (by decide) (by decide) hs1 hpl) fun _ _ _ _ _ _ t=>tD_isT hK hk t
theorem b1m {a b:Expr} {ga gb:ME} {p p' pos' pos:Pos} (hc:X.calm=true) (hg:Gl X "list") (hm:X.mg "list" = none) (hg2:Gl X "range") (hm2:X.mg "range" = none) (ha:PD X Γ W a ga) (hb:PD X Γ W b gb)
  (hs1:starEach [a,b] X.env=(false,eval a X.env)::starEach [b] X.env:=by rfl) (hs2:starEach [b] X.env=(false,eval b X.env)::starEach [] X.env:=by rfl) (hpl:(backTo pos' (starEach [b] X.env)).any (·.1)=false:=by rfl)
  (hs3:starEach [.Call (.Name "range" p') [a,b] [] pos'] X.env=(false,eval (.Call (.Name "range" p') [a,b] [] pos') X.env)::starEach [] X.env:=by rfl) (hpl2:(backTo pos (starEach [] X.env)).any (·.1)=false:=by rfl):
  PD X Γ W (.Call (.Name "list" p) [.Call (.Name "range" p') [a,b] [] pos'] [] pos) (eBin a6H ga gb):=
 PE.imp (a6k (b16 hc) hg hm boot_list (a1N (a6k b3i hg2 hm2 boot_range (a1N ha (a1N hb a4Z hs2) hs1) (by decide) (by decide) hs1 hpl) a4Z hs3) (by decide) (by decide) hs3 hpl2) fun _ _ σ H Q _ ⟨B0,B1,Hs,ρ,r,re,e,q⟩=>by
  refine (a1x re e q).mono fun v H1 ⟨Hs1,d,g1,re1,rp,e1,q1⟩=>?_
  refine (a1x re1 e1 q1).mono fun u H2 ⟨Hs2,d2,g2,re2,rp2,e2,q2⟩=>?_
  obtain ⟨lo,hi,rfl,rfl,e2⟩:=a3F (f:=fun lo hi=>if a5k lo=true/\a5k hi=true/\(hi - lo).toNat<=lim then okL (rng lo hi) else none) (fun _ _=>rfl) e2
  obtain ⟨⟨h1,h2,h3⟩,rfl⟩:=a1q e2
  refine ⟨lo,hi,by rw [a0m.mp rp,a0m.mp rp2],fun p hp=>?_⟩
  have sm:=re2.b.i
  refine ⟨p,lo,hi,rfl,a0O,⟨(a4M h1).1,(a4M h1).2,(a4M h2).1,(a4M h2).2⟩,a6y h3,fun l hl=>?_⟩
  have hp2:=sm.free hp
  have g3:Grow Hs2 H2 Hs2 (upd (upd H2 p (.rng lo hi)) l (.lst ((List.range (hi - lo).toNat).map fun k:Nat=>V.int (lo+k)))):=.only sm ((a1E hp).trans (a1E hl))
  have hl2:H2 l=none:=(a1E hp).free hl
  refine q2 _ Hs2 _ g3 ⟨l,_,rfl,hl2,sm.free hl2,a0O,_,rfl,?_⟩
  unfold rng
  exact repL_map _ fun k=>a0m.mpr rfl
end
section
variable {X:Cx} {Γ:Ct} {W:XW} {i:Nat} {x:Str} {e ex:Expr} {ge gx:ME} {px apos cpos pos:Pos}
theorem a7U {i:Nat} {ρ:MEnv} {k:List D->Option Out} {o:Out} (h:ownL i ρ k=some o):∃ds,ρ[i]?=some (some (.own (.lst ds)))/\k ds=some o:=by
 unfold ownL at h
 split at h
 ·rename_i ds hd;exact ⟨ds,hd,h⟩
 ·cases h
theorem a4x (hv:PE X (.Name x px) (tVar i)) (he:PD X Γ W e ge) (hs:starEach [e] X.env=(false,eval e X.env)::starEach [] X.env:=by rfl)
  (hbase:attributeBase (.Name x px) "append" X.env (eval (.Name x px) X.env)=eval (.Name x px) X.env:=by rfl)
  (hfew:((backTo cpos (starEach [e] X.env)).all (fun x=>!x.1) && (backToKw cpos (keywordEach [] X.env)).all (fun x=>x.1.isSome) && decide ([e].length+([]:List Keyword).length+(if ([]:List Keyword).isEmpty then 0 else 1)<30))=true:=by rfl)
  (hline:(apos.endLine == cpos.line)=true:=by rfl) (hplain:(backTo cpos (starEach [] X.env)).any (·.1)=false:=by rfl) (hsw:swapsWith (.Call (.Attribute (.Name x px) "append" apos) [e] [] cpos) none pos.line X.env=pure false:=by rfl):
  PSD X Γ W (.Expr (.Call (.Attribute (.Name x px) "append" apos) [e] [] cpos) pos) (a5d i ge):=
 PS.imp (a90 (pe_bm PySem.F.plainAttrs_list PySem.F.slot_list_append PySem.F.type_list_append b1K hv (a1N he a4Z hs) hbase hfew hline hs hplain) hsw) fun pins s σ H En I ⟨B0,B1,Hs,ρ,o,re,eo,q⟩=>by
  obtain ⟨ds,hd,eo⟩:=a7U eo
  obtain ⟨a,ho,e1,e2,e3,e4,xs,rfl,rl⟩:=re.own i _ hd
  refine ⟨.ref a,e1,.inl ⟨rfl,xs,.of e4⟩,(tD_O re eo q).mono fun y H1 ⟨Hs1,s,g1,rs,e5⟩=>?_⟩
  obtain ⟨hl,rfl⟩:=a1q e5
  obtain ⟨Hs2,g2,_,rp⟩:=rs.share g1
  refine ⟨a,xs,y,rfl,rfl,g2.h _ _ e4,by rw [←rl.length];exact lt_of_lt_of_le hl (by decide),q σ Hs2 _ g2.s ((re.grow g2).write hd e1 ⟨_,rfl,(rl.mono g2.s).append (.cons rp .nil)⟩)⟩
theorem b4v (hK:X.K=Γ.K) (hv:PE X (.Name x px) (tVar i)) (he:PD X Γ W e ge) (hs:starEach [e] X.env=(false,eval e X.env)::starEach [] X.env:=by rfl)
  (hbase:attributeBase (.Name x px) "extend" X.env (eval (.Name x px) X.env)=eval (.Name x px) X.env:=by rfl)
  (hfew:((backTo cpos (starEach [e] X.env)).all (fun x=>!x.1) && (backToKw cpos (keywordEach [] X.env)).all (fun x=>x.1.isSome) && decide ([e].length+([]:List Keyword).length+(if ([]:List Keyword).isEmpty then 0 else 1)<30))=true:=by rfl)
  (hline:(apos.endLine == cpos.line)=true:=by rfl) (hplain:(backTo cpos (starEach [] X.env)).any (·.1)=false:=by rfl) (hsw:swapsWith (.Call (.Attribute (.Name x px) "extend" apos) [e] [] cpos) none pos.line X.env=pure false:=by rfl):
  PSD X Γ W (.Expr (.Call (.Attribute (.Name x px) "extend" apos) [e] [] cpos) pos) (a9Y i ge):=
 PS.imp (a90 (pe_bm PySem.F.plainAttrs_list PySem.F.slot_list_extend PySem.F.type_list_extend (MtR.or b4P b4O) hv (a1N he a4Z hs) hbase hfew hline hs hplain) hsw) fun pins s σ H En I ⟨B0,B1,Hs,ρ,o,re,eo,q⟩=>by
  obtain ⟨ds,hd,eo⟩:=a7U eo
  obtain ⟨a,ho,e1,e2,e3,e4,xs,rfl,rl⟩:=re.own i _ hd
  refine ⟨.ref a,e1,.inl ⟨rfl,xs,.of e4⟩,(tD_O re eo q).mono fun y H1 ⟨Hs1,s,g1,rs,e5⟩=>?_⟩
  obtain ⟨Hs2,g2,_,rp⟩:=rs.share g1
  have wr:∀{es:List D} {ys:List V},RepL Γ Hs2 es ys->o=.next (ρ.set i (some (.own (.lst (ds++es)))))->En.nx σ (upd H1 a (.lst (xs++ys))):=fun {es ys} rl2 eo=>by
   subst eo
   exact q σ Hs2 _ g2.s ((re.grow g2).write hd e1 ⟨_,rfl,(rl.mono g2.s).append rl2⟩)
  cases hv:s.val with
  | lst es=>
   rw [hv] at e5 rp
   obtain ⟨hl,eo⟩:=a1q (c:=ds.length+es.length<=lim) e5
   obtain ⟨b,ys,rfl,rd,rl2⟩:=a1M.mp rp
   exact .inl ⟨a,b,xs,ys,rfl,rfl,g2.h _ _ e4,by rw [hK];exact Same.seq g2.i rd,by rw [←rl.length,←rl2.length];exact a6y hl,wr rl2 eo.symm⟩
  | tup es=>
   rw [hv] at e5 rp
   obtain ⟨hl,eo⟩:=a1q (c:=ds.length+es.length<=lim) e5
   obtain ⟨b,ys,rfl,sq,rl2⟩:=a1k.mp rp
   exact .inr ⟨a,b,xs,ys,rfl,rfl,g2.h _ _ e4,by rw [hK];exact a1P g2.i sq,by rw [←rl.length,←rl2.length];exact a6y hl,wr rl2 eo.symm⟩
  | non=>rw [hv] at e5;cases e5
  | bl _=>rw [hv] at e5;cases e5
  | int _=>rw [hv] at e5;cases e5
  | str _=>rw [hv] at e5;cases e5
  | fn _ _=>rw [hv] at e5;cases e5
  | obj _ _ _=>rw [hv] at e5;cases e5
end
def W0:XW:=fun _ _ _=>False
theorem a7z {Γ:Ct} {Hs H:Hp} (sm:Same Hs H) {N:List Str} {ds:List D} {vs:List V} (rl:RepL Γ Hs ds vs) (tb:Same Γ.tb Hs):RE Γ Hs H Hs H (L2.start N vs) (a1y N.length ds):=by
 have hl:=rl.length
 have at':∀(i:Nat) (s:S),(a1y N.length ds)[i]?=some (some s)->∃d,s=.sh d/\ds[i]?=some d:=fun i s e=>by
  unfold a1y at e
  by_cases hi:i<ds.length
  ·rw [getElem?_append_left (by simpa using hi),getElem?_map,getElem?_eq_getElem hi] at e
   cases e
   exact ⟨ds[i],rfl,getElem?_eq_getElem hi⟩
  ·rw [getElem?_append_right (by simpa using hi),getElem?_replicate] at e
   split at e <;> cases e
 refine ⟨.refl sm,fun i d e=>?_,fun i o e=>?_,fun i j o u a _ e=>?_,?_,tb⟩
 ·obtain ⟨d',e1,e2⟩:=at' i _ e
  cases e1
  obtain ⟨v,e3,q⟩:=rl.get e2
  refine ⟨v,?_,q⟩
  have hi:i<vs.length:=(List.getElem?_eq_some_iff.mp e3).1
  unfold L2.start
  rw [getElem?_append_left (by simpa using hi),getElem?_map,e3]
  rfl
 ·obtain ⟨_,e1,_⟩:=at' i _ e;cases e1
 ·obtain ⟨_,e1,_⟩:=at' i _ e;cases e1
 ·unfold a1y L2.start
  rw [length_append,length_append,length_map,length_map,length_replicate,length_replicate,hl]
section
variable {P:Program} {w:World} {K:Frag} {mg:Str->Option Value} {base:Heap} {Γ:Ct}
theorem a7B {np n:Nat} {g:MC} {ds:List D} {r:R} (h:fnD np n g ds=some r):ds.length=np/\outR (g (a1y n ds))=some r:=by
 unfold fnD at h
 by_cases z:ds.length=np
 ·rw [if_pos z] at h;exact ⟨z,h⟩
 ·rw [if_neg z] at h;cases h
theorem fn_D {x qual:Str} {st:Stmt} {f:Addr} {fd:FuncData} {N ps:List Str} {k:Nat} {g:MC} (F:Fun K x qual st f fd) (S:a0r N ps (a0g st))
  (body:∀(cdv:Value) (A:Around) (outer:List PySem.Env) (s:Shared) (H:Hp) (E:XK),Room k (A.deeper (envOfC qual (a0g st) s.heap.objs.size f cdv))->PSsD (cxOf CX0 P w K mg base N qual (a0g st) f cdv A outer s H E).nox Γ W0 (a0k st) g):
  FnOk P w K mg base CX0 (k+1) f fd ps (spD Γ W0 (fnD ps.length N.length g)):=by
 refine F.ok S (fun vs H Q E ⟨Hs,ds,r,sm,rl,e,q,tb⟩=>?_) (fun cdv A outer s H vs Q E hr ⟨Hs,ds,r,sm,rl,e,q,tb⟩=>?_)
 ·rw [←rl.length];exact (a7B e).1
 ·obtain ⟨_,e⟩:=a7B e
  refine ⟨tS Γ W0 g,body cdv A outer s H E hr,?_⟩
  cases h:g (a1y N.length ds) with
  | none=>rw [h] at e;cases e
  | some o=>
   rw [h] at e
   refine ⟨Hs,H,Hs,a1y N.length ds,o,a7z sm rl tb,h,?_⟩
   cases o with
   | next ρ'=>cases e;exact fun σ' Hs' H' _ re=>q .non Hs' H' re.b (RepS.of (a2i.mpr rfl))
   | brk ρ'=>cases e
   | cont ρ'=>cases e
   | ret s=>cases e;exact fun v Hs' H' _ g' rs=>q v Hs' H' g' rs
   | exc x=>cases e;exact fun Hs' H' _ g'=>q Hs' H' g'
theorem fn_rec {x qual:Str} {st:Stmt} {f:Addr} {fd:FuncData} {N ps:List Str} {k:Nat} {g:(List D->Option R)->MC} (F:Fun K x qual st f fd) (S:a0r N ps (a0g st))
  (body:∀(G:List D->Option R) (j:Nat),k<=j->FnOk P w K mg base CX0 j f fd ps (spD Γ W0 G)->∀(cdv:Value) (A:Around) (outer:List PySem.Env) (s:Shared) (H:Hp) (E:XK),Room j (A.deeper (envOfC qual (a0g st) s.heap.objs.size f cdv))->PSsD (cxOf CX0 P w K mg base N qual (a0g st) f cdv A outer s H E).nox Γ W0 (a0k st) (g G)):
  ∀n,FnOk P w K mg base CX0 (k+n) f fd ps (spD Γ W0 (n.rec (fun _=>none) fun _ G=>fnD ps.length N.length (g G)))
 | 0=>⟨fun vs H Q E ⟨Hs,ds,r,_,_,e,_,_⟩=>(nomatch e),fun A outer s H args us vs Q E _ _ _ _ ⟨Hs,ds,r,_,_,e,_,_⟩=>(nomatch e)⟩
 | n+1=>fn_D F S (body _ (k+n) (Nat.le_add_right _ _) (fn_rec F S body n))
theorem FnOk.le {f:Addr} {fd:FuncData} {ps:List Str} {k:Nat} {F G:List D->Option R} (h:FnOk P w K mg base CX0 k f fd ps (spD Γ W0 F)) (l:∀ds r,G ds=some r->F ds=some r):FnOk P w K mg base CX0 k f fd ps (spD Γ W0 G):=
 h.imp fun vs H Q E ⟨Hs,ds,r,sm,rl,e,q,tb⟩=>⟨Hs,ds,r,sm,rl,l _ _ e,q,tb⟩
end
theorem b1X (K:Frag):a7v K "tuple" /\ a7v K "list" /\ a7v K "bool" /\ a7v K "int" /\ a7v K "str" := by
 refine ⟨?_,?_,?_,?_,?_⟩ <;>
 ·intro t ht
  have:t = "NoneType" \/ t = "bool" \/ t = "int" \/ t = "str" \/ t = "tuple" \/ t = "list" := by simpa using ht
  rcases this with rfl|rfl|rfl|rfl|rfl|rfl <;> rfl
def FnN (P:Program) (w:World) (K:Frag) (mg:Str->Option Value) (base:Heap) (Γ:Ct) (k:Nat) (x:Str) (ps:List Str) (F:List D->Option R):Prop:=
 ∃f fd,FnOk P w K mg base CX0 k f fd ps (spD Γ W0 F)/\mg x=some (.ref f)/\keepIn K (.ref f)=true/\a4o K fd ps []
section
variable {X:Cx} {Γ:Ct} {k:Nat} {ps:List Str} {x:Str} {p pos:Pos} {e:Expr} {es:List Expr} {gs:List ME} {F:List D->Option R}
theorem a08 (h:FnN X.prog X.w X.K X.mg X.base Γ k x ps F) (hr:Room k X.A) (hg:Gl X x) (ha:PAD X Γ W0 (e::es) gs) (hdb:(x == ("__debug__" : Str))=false:=by decide) (he:starEach (e::es) X.env=(false,eval e X.env)::starEach es X.env:=by rfl) (hpl:(backTo pos (starEach es X.env)).any (·.1)=false:=by rfl):
  PD X Γ W0 (.Call (.Name x p) (e::es) [] pos) (a0v F gs):=by
 obtain ⟨f,fd,G,hm,hk,hb⟩:=h
 exact pd_call G hr hg hm hk hb ha hdb he hpl
end
structure Laid (K:Frag) (mg:Str->Option Value) (x:Str) (st:Stmt) (ps:List Str):Prop where
 ex:∃f fd,Fun K x x st f fd/\mg x=some (.ref f)/\a4o K fd ps []
section
variable {P:Program} {w:World} {K:Frag} {mg:Str->Option Value} {base:Heap} {Γ:Ct}
theorem a1m {x:Str} {st:Stmt} {N ps:List Str} {k:Nat} {g:MC} (L:Laid K mg x st ps) (S:a0r N ps (a0g st))
  (body:∀(f:Addr) (cdv:Value) (A:Around) (outer:List PySem.Env) (s:Shared) (H:Hp) (E:XK),Room k (A.deeper (envOfC x (a0g st) s.heap.objs.size f cdv))->PSsD (cxOf CX0 P w K mg base N x (a0g st) f cdv A outer s H E).nox Γ W0 (a0k st) g):
  FnN P w K mg base Γ (k+1) x ps (fnD ps.length N.length g):=by
 obtain ⟨f,fd,F,hm,hb⟩:=L.ex
 exact ⟨f,fd,fn_D F S (body f),hm,F.kp,hb⟩
theorem b49 {x:Str} {st:Stmt} {N ps:List Str} {k:Nat} {g:(List D->Option R)->MC} (L:Laid K mg x st ps) (S:a0r N ps (a0g st))
  (body:∀(f:Addr) (G:List D->Option R) (j:Nat),k<=j->FnN P w K mg base Γ j x ps G->∀(cdv:Value) (A:Around) (outer:List PySem.Env) (s:Shared) (H:Hp) (E:XK),Room j (A.deeper (envOfC x (a0g st) s.heap.objs.size f cdv))->PSsD (cxOf CX0 P w K mg base N x (a0g st) f cdv A outer s H E).nox Γ W0 (a0k st) (g G)) (n:Nat):
  FnN P w K mg base Γ (k+n) x ps (n.rec (fun _=>none) fun _ G=>fnD ps.length N.length (g G)):=by
 obtain ⟨f,fd,F,hm,hb⟩:=L.ex
 exact ⟨f,fd,fn_rec F S (fun G j hj ok=>body f G j hj ⟨f,fd,ok,hm,F.kp,hb⟩) n,hm,F.kp,hb⟩
theorem FnN.mono {j k:Nat} {x:Str} {ps:List Str} {F:List D->Option R} (h:FnN P w K mg base Γ j x ps F) (l:j<=k):FnN P w K mg base Γ k x ps F:=by
 obtain ⟨f,fd,G,r⟩:=h
 exact ⟨f,fd,G.mono l,r⟩
theorem FnN.le {k:Nat} {x:Str} {ps:List Str} {F G:List D->Option R} (h:FnN P w K mg base Γ k x ps F) (l:∀ds r,G ds=some r->F ds=some r):FnN P w K mg base Γ k x ps G:=by
 obtain ⟨f,fd,o,r⟩:=h
 exact ⟨f,fd,FnOk.le o l,r⟩
theorem a09 {h:Heap} (X:K.In h) (G:h.Ns mainGlobals mg) {x:Str} {st:Stmt} {ps:List Str} {f:Addr} {oc:Value} {od an:Option Addr} {osl:Array (Option Value)} {kV doc pm cdv ct:Value} (a:nsIn K mainGlobals x=some (some (.ref f)))
  (l:K.lookup f=some ⟨oc,od,.func (fnOf x x (a0p st) (a0k st) (a0g st) .none kV doc pm an cdv ct),osl⟩) (c:codeIn K cdv x=true) (k:keepIn K (.ref f)=true)
  (hb:∀(kV doc pm:Value) (an:Option Addr) (cdv ct:Value) (us:List Value),us.length=ps.length->bindArgs (fnOf x x (a0p st) (a0k st) (a0g st) .none kV doc pm an cdv ct) ⟨us,[]⟩=pure (ps.zip us)):Laid K mg x st ps:=
 ⟨f,_,a9a l c k,mg_of X G a,(a9a l c k).binds hb⟩
end
theorem a73 (K:Frag):a7v K "tuple" := (b1X K).1
theorem b0m (K:Frag):a7v K "list" := (b1X K).2.1
theorem kit_bool (K:Frag):a7v K "bool" := (b1X K).2.2.1
theorem kit_int (K:Frag):a7v K "int" := (b1X K).2.2.2.1
theorem b6U (K:Frag):a7v K "str" := (b1X K).2.2.2.2
theorem a2v:bootBuiltins "tuple" = some (.type "tuple"):=by decide +kernel
theorem a58:bootBuiltins "list" = some (.type "list"):=by decide +kernel
theorem bt_bool:bootBuiltins "bool" = some (.type "bool"):=by decide +kernel
theorem bt_int:bootBuiltins "int" = some (.type "int"):=by decide +kernel
theorem bt_str:bootBuiltins "str" = some (.type "str"):=by decide +kernel
theorem bt_sum:bootBuiltins "sum" = some (.builtin "sum"):=by decide +kernel
theorem bt_all:bootBuiltins "all" = some (.builtin "all"):=by decide +kernel
def spLaw (K:Frag):Sp:=fun vs H Q _=>∃(a:Addr) (ns:List Int),vs=[.ref a]/\SqL K H a (ns.map V.int)/\ns.length<=63/\∀H',Q (.bl true) H'
theorem law_sp {P:Program} {w:World} {K:Frag} {mg:Str->Option Value} {base:Heap} {Γ:Ct} {k:Nat} {f:Addr} {fd:FuncData} {x:Str} {F:List D->Option R} (h:FnOk P w K mg base CX0 k f fd [x] (spD Γ W0 F)) (hK:Γ.K=K) (htb:Γ.tb=fun _=>none)
  (T:∀ns:List Int,ns.length<=63->F [.lst (ns.map D.int)]=some (.ok (.sh (.bl true)))):FnOk P w K mg base CX0 k f fd [x] (spLaw K):=
 h.imp fun vs H Q E ⟨a,ns,ev,hS,hl,q⟩=>by
  subst hK
  subst ev
  refine ⟨H,[.lst (ns.map D.int)],_,.refl _,.cons (a1M.mpr ⟨a,_,rfl,hS,RepL.ints ns⟩) .nil,T ns hl,fun v Hs' H' g rs=>?_,fun b o z=>by rw [htb] at z;cases z⟩
  have rs':Rep Γ Hs' (.bl true) v:=rs
  rw [a0D.mp rs']
  exact q H'
theorem law_walk {l:PySem.W.OpenLaw} {q:Program} {loose:List Str} {XP:(Str->Option Value)->Heap->Prop} {YP:World->Heap->Prop} {d:DefRec} {K:Params->Frag} {k:Nat} {x:Str} (hk:k<=60) (hn:l.most=some 63) (hdf:d.params.defaults=[])
  (hY:∀(w:World) (h:Heap),YP w h->(K w.params).In h)
  (F:∀(w:World) (mg:Str->Option Value) (fa:Addr) (h:Heap),(K w.params).In h->h.Ns mainGlobals mg->mg d.name=some (.ref fa)->
   ∃fd:FuncData,(∀(s:Shared) (u:Value),BindsTo s fd ⟨[u],[]⟩ [(x,u)])/\∀base:Heap,FnOk l.prog w (K w.params) mg base CX0 k fa fd [x] (spLaw (K w.params))):
  PySem.W.WalkO q loose XP YP l.row.toRowW d [] (fun f vs=>PySem.call f vs):=
 L2.walk_of (n:=63) (k:=k) (x:=x) (CX:=fun _=>CX0) (sp:=fun w=>spLaw (K w.params)) hn (by decide) hdf (Room.mono (k:=60) ⟨rfl,by decide,by decide⟩ hk) hY (fun w mg fa h KX G hm=>by
  obtain ⟨fd,hb,ok⟩:=F w mg fa h KX G hm
  exact ⟨fd,hb,fun base _ _=>ok base⟩) (fun _ _ a ns hl _ hS=>⟨a,ns,rfl,hS,hl,fun _=>rfl⟩) fun _ _ _ _ _ z=>z
section
variable {X:Cx} {Γ:Ct} {W:XW}
theorem opd_shl:OpR X (binaryOp .LShift) (rD Γ W dShl):=fun pins s σ H x y v u Q I rx ry ⟨Hs,d1,d2,r,sm,r1,r2,e,q⟩=>by
 obtain ⟨i,j,rfl,rfl,e⟩:=a3F (f:=fun i j=>if 0<=j/\j<=1000000/\i.natAbs<2 ^ 64 then okI (i * 2 ^ j.toNat) else none) (fun _ _=>rfl) e
 obtain ⟨h,rfl⟩:=a1q e
 exact op_shl pins s σ H x y v u Q I rx ry ⟨i,j,a0m.mp r1,a0m.mp r2,h,retS sm q (a0m.mpr rfl)⟩
theorem b2I:OpR X (binaryOp .Pow) (rD Γ W dPow):=fun pins s σ H x y v u Q I rx ry ⟨Hs,d1,d2,r,sm,r1,r2,e,q⟩=>by
 obtain ⟨i,j,rfl,rfl,e⟩:=a3F (f:=fun i j=>if 0<=j/\j<=1000000/\i.natAbs<2 ^ 64 then okI (i ^ j.toNat) else none) (fun _ _=>rfl) e
 obtain ⟨h,rfl⟩:=a1q e
 exact op_pow pins s σ H x y v u Q I rx ry ⟨i,j,a0m.mp r1,a0m.mp r2,h,retS sm q (a0m.mpr rfl)⟩
section
variable {a b c:Expr} {ga gb gc:ME} {pos:Pos}
theorem pd_un {op:UnaryOp} {f:D->Option R} {rr:V->Hp->VK->Prop} (ho:UnR X (unaryOp op) rr) (hf:∀d v Hs H r Q,Same Hs H->Rep Γ Hs d v->f d=some r->RQ Γ W Hs H r Q->rr v H Q) (ha:PD X Γ W a ga):PD X Γ W (.UnaryOp op a pos) (eUn f ga):=
 PE.imp (pe_un ho ha) fun _ _ σ H Q _ t=>by
  obtain ⟨B0,B1,Hs,ρ,r,re,e,q⟩:=t
  exact (a1x re e q).mono fun v H1 ⟨Hs1,d,g1,re1,rp,e1,q1⟩=>hf d v Hs1 H1 r Q re1.b.i rp e1 q1
theorem pd_usub (ha:PD X Γ W a ga):PD X Γ W (.UnaryOp .USub a pos) (eUn dNeg ga):=pd_un un_neg (fun d v Hs H r Q sm rp e q=>by
 cases d with
 | int i=>cases e;exact ⟨i,a0m.mp rp,retS sm q (a0m.mpr rfl)⟩
 | non=>cases e
 | bl _=>cases e
 | str _=>cases e
 | tup _=>cases e
 | lst _=>cases e
 | fn _ _=>cases e
 | obj _ _ _=>cases e) ha
end
theorem cd_abs:a2M X (.builtin "abs") (spR Γ W (f1 dAbs)):=fun pins s σ H xs us Q I rs ⟨Hs,ds,r,sm,rl,e,q,tb⟩=>by
 obtain ⟨d,rfl,e⟩:=a57 e
 obtain ⟨x,rfl,rp⟩:=b1a rl
 cases d with
 | int i=>cases e;exact call_abs pins s σ H _ us Q I rs ⟨i,by rw [a0m.mp rp],retS sm q (a0m.mpr rfl)⟩
 | non=>cases e
 | bl _=>cases e
 | str _=>cases e
 | tup _=>cases e
 | lst _=>cases e
 | fn _ _=>cases e
 | obj _ _ _=>cases e
theorem cd_int:a2M X (.type "int") (spR Γ W (f1 dInt)):=fun pins s σ H xs us Q I rs ⟨Hs,ds,r,sm,rl,e,q,tb⟩=>by
 obtain ⟨d,rfl,e⟩:=a57 e
 obtain ⟨x,rfl,rp⟩:=b1a rl
 cases d with
 | int i=>cases e;exact b18 pins s σ H _ us Q I rs (.inl ⟨i,by rw [a0m.mp rp],retS sm q (a0m.mpr rfl)⟩)
 | bl b=>cases e;exact b18 pins s σ H _ us Q I rs (.inr ⟨b,by rw [a0D.mp rp],retS sm q (a0m.mpr rfl)⟩)
 | non=>cases e
 | str _=>cases e
 | tup _=>cases e
 | lst _=>cases e
 | fn _ _=>cases e
 | obj _ _ _=>cases e
theorem bt_abs:bootBuiltins "abs" = some (.builtin "abs"):=by decide +kernel
end
section
variable {X:Cx} {Γ:Ct} {W:XW}
theorem a9X (n d:Nat) (o:Option Int):HT.sIx n d o=sIxD n d o:=by cases o <;> rfl
theorem b34 {H:Hp} {ds:List D} {xs:List V} (rl:RepL Γ H ds xs) (lo hi:Option Int):RepL Γ H (cutD ds lo hi) (cutV xs lo hi):=by
 unfold cutD cutV
 rw [a9X,a9X,←rl.length]
 exact (rl.drop _).take _
def rSlice (Γ:Ct) (W:XW):V->Option Int->Option Int->Hp->VK->Prop:=fun v lo hi H Q=>∃Hs d r,Same Hs H/\Rep Γ Hs d v/\a6G d lo hi=some r/\RQ Γ W Hs H r Q
theorem sld (hK:X.K=Γ.K):SlR X (rSlice Γ W):=fun pins s σ H x v vl vu lo hi sl Q I rx hs pl pu ⟨Hs,d,r,sm,rp,e,q⟩=>by
 cases d with
 | tup ds=>
  obtain ⟨a,xs,rfl,sq,rl⟩:=a1k.mp rp
  have e':(if sIxD ds.length 0 lo=0/\sIxD ds.length ds.length hi=ds.length then none else okD (.tup (cutD ds lo hi)))=some r:=e
  by_cases hw:sIxD ds.length 0 lo=0/\sIxD ds.length ds.length hi=ds.length
  ·rw [if_pos hw] at e';cases e'
  ·rw [if_neg hw] at e'
   cases e'
   exact sl_tup pins s σ H _ v vl vu lo hi sl Q I rx hs pl pu ⟨a,xs,rfl,by rw [hK];exact a1P sm sq,by rw [a9X,a9X,←rl.length];exact hw,fun p hp=>b2D sm q (b34 rl lo hi) hp⟩
 | lst ds=>
  obtain ⟨a,xs,rfl,sq,rl⟩:=a1M.mp rp
  cases e
  exact sl_list pins s σ H _ v vl vu lo hi sl Q I rx hs pl pu ⟨a,xs,rfl,by rw [hK];exact Same.seq sm sq,fun p hp=>a7N sm q (b34 rl lo hi) hp⟩
 | non=>cases e
 | bl _=>cases e
 | int _=>cases e
 | str _=>cases e
 | fn _ _=>cases e
 | obj _ _ _=>cases e
def tP (Γ:Ct) (W:XW) (o:Option ME):TO:=match o with
 | none=>b5K
 | some g=>tPart (tD Γ W g)
abbrev POD (X:Cx) (Γ:Ct) (W:XW) (e:Option Expr) (o:Option ME):Prop:=PO X e (tP Γ W o)
theorem a6i:POD X Γ W none none:=po_none
theorem a6h {e:Expr} {g:ME} (h:PD X Γ W e g):POD X Γ W (some e) (some g):=po_some h
theorem b1o {o:Option ME} {B0 B1 Hs H:Hp} {σ:L2.St} {ρ:MEnv} {k:Option Int->Option R} {r:R} {Q:VK} (re:RE Γ B0 B1 Hs H σ ρ) (e:partD o ρ k=some r) (q:RQ Γ W Hs H r Q) {Q':Option Int->Hp->Prop}
  (h:∀i H1 Hs1,Grow Hs H Hs1 H1->RE Γ B0 B1 Hs1 H1 σ ρ->k i=some r->RQ Γ W Hs1 H1 r Q->Q' i H1):tP Γ W o σ H Q':=by
 cases o with
 | none=>exact h none H Hs (.refl re.b.i) re e q
 | some g=>
  have e':a06 (g ρ) (fun d=>match d with|.int i=>k (some i)|_=>none)=some r:=e
  refine (a1x re e' q).mono fun v H1 ⟨Hs1,d,g1,re1,rp,e1,q1⟩=>?_
  cases d with
  | int i=>exact ⟨i,a0m.mp rp,h (some i) H1 Hs1 g1 re1 e1 q1⟩
  | non=>cases e1
  | bl _=>cases e1
  | str _=>cases e1
  | tup _=>cases e1
  | lst _=>cases e1
  | fn _ _=>cases e1
  | obj _ _ _=>cases e1
theorem a6n {e:Expr} {g:ME} {lo hi:Option Expr} {gl gh:Option ME} {pos p2:Pos} (hK:X.K=Γ.K) (he:PD X Γ W e g) (hl:POD X Γ W lo gl) (hh:POD X Γ W hi gh):PD X Γ W (.Subscript e (.Slice lo hi none p2) pos) (a3C g gl gh):=
 PE.imp (pe_slice (sld hK) he hl hh) fun _ _ σ H Q _ ⟨B0,B1,Hs,ρ,r,re,e,q⟩=>by
  refine (a1x re e q).mono fun v H1 ⟨Hs1,d,g1,re1,rp,e1,q1⟩=>?_
  refine b1o re1 e1 q1 fun l H2 Hs2 g2 re2 e2 q2=>?_
  refine b1o re2 e2 q2 fun u H3 Hs3 g3 re3 e3 q3=>?_
  exact ⟨Hs3,d,r,re3.b.i,(rp.mono g2.s).mono g3.s,e3,q3⟩
theorem b3C {a:Expr} {g:ME} {j pos pos'} (h:PD X Γ W a g):PTD X Γ W (.Compare a [.IsNot] [.Constant .none j pos'] pos) (eUn b3f g):=PT.imp (b6c (pc_notN h)) fun _ _ σ H Q _ t=>by
 have t':=b5I t
 obtain ⟨B0,B1,Hs,ρ,r,re,e,q⟩:=t'
 refine (a1x re e q).mono fun v H1 ⟨Hs1,d,g1,re1,rp,e1,q1⟩=>?_
 cases d with
 | non=>cases e1;rw [a2i.mp rp];exact q1 _ Hs1 H1 (.refl re1.b.i) (RepS.of (a0D.mpr rfl))
 | bl _=>cases e1;rw [a0D.mp rp];exact q1 _ Hs1 H1 (.refl re1.b.i) (RepS.of (a0D.mpr rfl))
 | int _=>cases e1;rw [a0m.mp rp];exact q1 _ Hs1 H1 (.refl re1.b.i) (RepS.of (a0D.mpr rfl))
 | str _=>cases e1;rw [a1L.mp rp];exact q1 _ Hs1 H1 (.refl re1.b.i) (RepS.of (a0D.mpr rfl))
 | tup _=>cases e1;obtain ⟨a,_,rfl,_⟩:=a1k.mp rp;exact q1 _ Hs1 H1 (.refl re1.b.i) (RepS.of (a0D.mpr rfl))
 | lst _=>cases e1;obtain ⟨a,_,rfl,_⟩:=a1M.mp rp;exact q1 _ Hs1 H1 (.refl re1.b.i) (RepS.of (a0D.mpr rfl))
 | fn _ _=>cases e1;obtain ⟨a,_,rfl,_⟩:=b57.mp rp;exact q1 _ Hs1 H1 (.refl re1.b.i) (RepS.of (a0D.mpr rfl))
 | obj _ _ _=>cases e1;obtain ⟨a,_,_,rfl,_⟩:=a5Y.mp rp;exact q1 _ Hs1 H1 (.refl re1.b.i) (RepS.of (a0D.mpr rfl))
end
theorem insD_mem (k x:Int):∀l:List Int,x∈insD k l↔x=k\/x∈l
 | []=>by simp [insD]
 | y::r=>by
  unfold insD
  split
  ·simp
  ·split
   ·rename_i h;subst h;simp
   ·rw [mem_cons,insD_mem k x r,mem_cons];constructor
    ·rintro (h|h|h) <;> simp [h]
    ·rintro (h|h|h) <;> simp [h]
theorem b6Z (k:Int):∀l:List Int,l.Pairwise (· < ·)->(insD k l).Pairwise (· < ·)
 | [],_=>by simp [insD]
 | y::r,h=>by
  obtain ⟨h1,h2⟩:=pairwise_cons.mp h
  unfold insD
  split
  ·rename_i hk
   refine pairwise_cons.mpr ⟨fun z hz=>?_,h⟩
   rcases mem_cons.mp hz with rfl|hz
   ·exact hk
   ·have:=h1 z hz;omega
  ·split
   ·exact h
   ·refine pairwise_cons.mpr ⟨fun z hz=>?_,b6Z k r h2⟩
    rcases (insD_mem k z r).mp hz with rfl|hz
    ·omega
    ·exact h1 z hz
theorem sortD_mem (x:Int):∀l:List Int,x∈a7L l↔x∈l
 | []=>by simp [a7L]
 | y::r=>by
  show x∈insD y (a7L r)↔_
  rw [insD_mem,sortD_mem x r,mem_cons]
theorem b3u:∀l:List Int,(a7L l).Pairwise (· < ·)
 | []=>by simp [a7L]
 | y::r=>b6Z y _ (b3u r)
theorem b1T:∀{l m:List Int},l.Pairwise (· < ·)->m.Pairwise (· < ·)->(∀x,x∈l↔x∈m)->l=m
 | [],[],_,_,_=>rfl
 | [],y::m,_,_,h=>by have:=(h y).mpr (mem_cons_self);cases this
 | x::l,[],_,_,h=>by have:=(h x).mp (mem_cons_self);cases this
 | x::l,y::m,h1,h2,h=>by
  obtain ⟨a1,a2⟩:=pairwise_cons.mp h1
  obtain ⟨b1,b2⟩:=pairwise_cons.mp h2
  have e:x=y:=by
   have p:=(h x).mp mem_cons_self
   have q:=(h y).mpr mem_cons_self
   rcases mem_cons.mp p with e|p
   ·exact e
   ·rcases mem_cons.mp q with e|q
    ·exact e.symm
    ·have:=b1 x p;have:=a1 y q;omega
  subst e
  congr 1
  refine b1T a2 b2 fun z=>⟨fun hz=>?_,fun hz=>?_⟩
  ·rcases mem_cons.mp ((h z).mp (mem_cons_of_mem _ hz)) with rfl|q
   ·have:=a1 z hz;omega
   ·exact q
  ·rcases mem_cons.mp ((h z).mpr (mem_cons_of_mem _ hz)) with rfl|q
   ·have:=b1 z hz;omega
   ·exact q
theorem b5Q {ns ks l:List Int} (hm:∀n,n∈ks↔n∈ns) (nd:ks.Nodup) (pm:l.Perm ks) (so:l.Pairwise (·<=·)):l=a7L ns:=by
 refine b1T ?_ (b3u ns) fun x=>by rw [sortD_mem,←hm,pm.mem_iff]
 have nd':l.Nodup:=pm.nodup_iff.mpr nd
 have h:=List.Pairwise.and so nd'
 exact h.imp fun {a b} ⟨h1,h2⟩=>by omega
section
variable {X:Cx} {Γ:Ct} {W:XW}
theorem fewD_of {ns:List Int} (h:fewD ns=true):few ns:=by
 unfold fewD at h
 simp only [and_eq_true,decide_eq_true_eq,all_eq_true] at h
 exact ⟨h.1,fun n hn=>by simpa using h.2 n hn⟩
theorem b1k {a:Expr} {g:ME} {p p' pos' pos:Pos} (hK:X.K=Γ.K) (hc:X.calm=true) (hg:Gl X "sorted") (hm:X.mg "sorted" = none) (hg2:Gl X "set") (hm2:X.mg "set" = none) (ha:PD X Γ W a g)
  (hs1:starEach [a] X.env=(false,eval a X.env)::starEach [] X.env:=by rfl) (hpl:(backTo pos' (starEach [] X.env)).any (·.1)=false:=by rfl)
  (hs3:starEach [.Call (.Name "set" p') [a] [] pos'] X.env=(false,eval (.Call (.Name "set" p') [a] [] pos') X.env)::starEach [] X.env:=by rfl) (hpl2:(backTo pos (starEach [] X.env)).any (·.1)=false:=by rfl):
  PD X Γ W (.Call (.Name "sorted" p) [.Call (.Name "set" p') [a] [] pos'] [] pos) (eUn b0v g):=
 PE.imp (a6l (b15 hc) hg hm b19 (a1N (a6k (b7p hc) hg2 hm2 b7s (a1N ha a4Z hs1) (by decide) (by decide) hs1 hpl) a4Z hs3) (by decide) (by decide) hs3 hpl2) fun _ _ σ H Q _ ⟨B0,B1,Hs,ρ,r,re,e,q⟩=>by
  refine (a1x re e q).mono fun v H1 ⟨Hs1,d,g1,re1,rp,e1,q1⟩=>?_
  cases d with
  | lst ds=>
   have e1:(intsOf ds).bind (fun ns=>if fewD ns=true then okL ((a7L ns).map D.int) else none)=some r:=e1
   cases hi:intsOf ds with
   | none=>rw [hi] at e1;cases e1
   | some ns=>
    rw [hi] at e1
    obtain ⟨hf,rfl⟩:=a1q (c:=fewD ns=true) e1
    obtain ⟨b,xs,rfl,sq,rl⟩:=a1M.mp rp
    have ex:=rl.intsOf hi
    subst ex
    have fw:=fewD_of hf
    have sm:=re1.b.i
    refine ⟨b,ns,rfl,by rw [hK];exact Same.seq sm sq,fw,fun a ks ha hm nd=>?_⟩
    refine ⟨a,ks,rfl,a0O,?_,fun l ms hl pm so=>?_⟩
    ·have:ks.length<=ns.length:=List.Nodup.length_le_of_subset nd fun x hx=>(hm x).mp hx
     have:=fw.1;omega
    ·have hl1:H1 l=none:=(a1E ha).free hl
     have ems:=b5Q hm nd pm so
     subst ems
     exact q1 _ Hs1 _ (.only sm ((a1E ha).trans (a1E hl))) ⟨l,_,rfl,hl1,sm.free hl1,a0O,_,rfl,RepL.ints _⟩
  | non=>cases e1
  | bl _=>cases e1
  | int _=>cases e1
  | str _=>cases e1
  | tup _=>cases e1
  | fn _ _=>cases e1
  | obj _ _ _=>cases e1
end
theorem b3Z {Γ:Ct} {H:Hp} {f:Str}:∀{ns:List Str} {ds:List D} {xs:List V} {d:D},RepL Γ H ds xs->fldD f ns ds=some d->∃v,(ns.zip xs).lookup f=some v/\Rep Γ H d v
 | [],ds,xs,d,_,e=>by cases ds <;> cases e
 | n::ns,[],xs,d,_,e=>by cases e
 | n::ns,d0::ds,xs,d,r,e=>by
  obtain ⟨x,r',rfl,q,t⟩:=a03.mp r
  unfold fldD at e
  rw [zip_cons_cons,lookup_cons]
  cases h:(f == n) with
  | true=>rw [h] at e;rw [if_pos rfl] at e;cases e;exact ⟨x,rfl,q⟩
  | false=>rw [h] at e;rw [if_neg Bool.false_ne_true] at e;exact b3Z t e
theorem a30 {m:Str}:∀{ns:List Str} {xs:List V},ns.contains m=false->(ns.zip xs).lookup m=none
 | [],xs,_=>by cases xs <;> rfl
 | n::ns,[],_=>rfl
 | n::ns,x::xs,h=>by
  rw [List.contains_cons,Bool.or_eq_false_iff] at h
  rw [zip_cons_cons,lookup_cons,h.1]
  exact a30 h.2
section
variable {X:Cx} {Γ:Ct} {W:XW} {e o:Expr} {es:List Expr} {g go:ME} {gs:List ME} {f m x:Str} {p pos apos:Pos}
theorem a5R {cs:List String} (hK:X.K=Γ.K) (hC:∀c∈cs,Cls Γ.K (Γ.cls c)/\a1C Γ.K (Γ.cls c) f) (he:PD X Γ W e g) (hb:attributeBase e f X.env (eval e X.env)=eval e X.env:=by rfl):PD X Γ W (.Attribute e f pos) (eUn (dFld cs f) g):=
 PE.imp (pe_fld he hb) fun _ _ σ H Q _ ⟨B0,B1,Hs,ρ,r,re,e,q⟩=>by
  refine (a1x (k:=dFld cs f) re e q).mono fun v H1 ⟨Hs1,d,g1,re1,rp,e1,q1⟩=>?_
  cases d with
  | obj c ns ds=>
   unfold dFld at e1
   by_cases hc:cs.contains c=true
   ·simp only [if_pos hc] at e1
    cases hf:fldD f ns ds with
    | none=>rw [hf] at e1;cases e1
    | some d'=>
     rw [hf] at e1
     cases e1
     obtain ⟨a,dx,xs,rfl,ea,rl⟩:=a5Y.mp rp
     obtain ⟨v',hl,rv⟩:=b3Z rl hf
     obtain ⟨c1,c2⟩:=hC c (by simpa using hc)
     exact ⟨a,_,dx,_,v',rfl,re1.b.i _ _ ea,hK▸c1,hK▸c2,hl,q1 v' Hs1 H1 (.refl re1.b.i) (RepS.of rv)⟩
   ·simp only [if_neg hc] at e1;cases e1
  | non=>cases e1
  | bl _=>cases e1
  | int _=>cases e1
  | str _=>cases e1
  | tup _=>cases e1
  | lst _=>cases e1
  | fn _ _=>cases e1
end
def a2k (P:Program) (w:World) (K:Frag) (mg:Str->Option Value) (base:Heap) (Γ:Ct) (k:Nat) (m:Str) (ps:List Str) (F:List D->Option R) (cs:List String):Prop:=
 ∃f fd,FnOk P w K mg base CX0 k f fd ps (spD Γ W0 F)/\a4o K fd ps []/\∀c∈cs,Cls K (Γ.cls c)/\Meth K (Γ.cls c) m f
def b7z (X:Cx) (Γ:Ct) (m:Str) (tb:String->Option (List D->Option R)):Prop:=
 ∀c F,tb c=some F->∃k ps cs,c∈cs/\a2k X.prog X.w X.K X.mg X.base Γ k m ps F cs/\Room k X.A
def b2o:String->Option (List D->Option R):=fun _=>none
def tbG (cs:List String) (F:List D->Option R) (t:String->Option (List D->Option R)):String->Option (List D->Option R):=fun c=>if cs.contains c=true then some F else t c
section
variable {X:Cx} {Γ:Ct} {e o:Expr} {es:List Expr} {g go:ME} {gs:List ME} {f m x:Str} {p pos apos:Pos} {tb:String->Option (List D->Option R)}
theorem a2O:b7z X Γ m b2o:=fun _ _ h=>nomatch h
theorem a1b {k:Nat} {ps:List Str} {F:List D->Option R} {cs:List String} (h:a2k X.prog X.w X.K X.mg X.base Γ k m ps F cs) (r:Room k X.A) (t:b7z X Γ m tb):b7z X Γ m (tbG cs F tb):=fun c G e=>by
 unfold tbG at e
 by_cases hc:cs.contains c=true
 ·rw [if_pos hc] at e;cases e;exact ⟨k,ps,cs,by simpa using hc,h,r⟩
 ·rw [if_neg hc] at e;exact t c G e
theorem a9b {d:D} {ρ:MEnv} {r:R} (h:(match d with
 | .obj c ns ds=>if ns.contains m=true then none else (match tb c with
  | some F=>a0X gs ρ fun vs=>F (.obj c ns ds::vs)
  | none=>none)
 | _=>none)=some r):∃c ns ds F,d=.obj c ns ds/\ns.contains m=false/\tb c=some F/\a0X gs ρ (fun vs=>F (.obj c ns ds::vs))=some r:=by
 cases d with
 | obj c ns ds=>
  dsimp only at h
  cases hn:ns.contains m with
  | true=>rw [hn,if_pos rfl] at h;cases h
  | false=>
   rw [hn,if_neg Bool.false_ne_true] at h
   cases ht:tb c with
   | none=>rw [ht] at h;cases h
   | some F=>rw [ht] at h;exact ⟨c,ns,ds,F,rfl,hn,ht,h⟩
 | non=>cases h
 | bl _=>cases h
 | int _=>cases h
 | str _=>cases h
 | tup _=>cases h
 | lst _=>cases h
 | fn _ _=>cases h
theorem a3A {pl:Sem Bool} (T:b7z X Γ m tb) (he:PD X Γ W0 o go) (ha:PAD X Γ W0 (e::es) gs)
  (hst:starEach (e::es) X.env=(false,eval e X.env)::starEach es X.env:=by rfl) (hpl:(backTo pos (starEach es X.env)).any (·.1)=false:=by rfl)
  (ht:eval (.Call (.Attribute o m apos) (e::es) [] pos) X.env=(do
   let ov ←eval o X.env
   standAt apos.atName
   let (f,first) ←holding [ov] (getMethod ov m pl)
   callWith pos f first (backTo pos (starEach (e::es) X.env)) (backToKw pos (keywordEach [] X.env))):=by rfl):
  PD X Γ W0 (.Call (.Attribute o m apos) (e::es) [] pos) (a3z m tb go gs):=by
 intro pins s σ H Q I ⟨B0,B1,Hs,ρ,r,re,e0,q⟩
 refine methodCall_KW (pl:=pl) (thn (he pins s σ H _ I (a1x re e0 q)) fun u s1 ⟨x,H1,I1,rx,Hs1,d,g1,re1,rp,e1,q1⟩=>?_) ht
 obtain ⟨c,ns,ds,F,rfl,hn,htb,e2⟩:=a9b e1
 obtain ⟨a,dx,xs,rfl,ea,rl⟩:=a5Y.mp rp
 obtain rfl:u=Value.ref a:=rx
 obtain ⟨k,ps,cs,hc,⟨f,fd,G,hb,hcs⟩,hr⟩:=T c F htb
 obtain ⟨c1,c2⟩:=hcs c hc
 refine a89 I1 (re1.b.i _ _ ea) c1 c2 (a30 hn) ?_
 refine callWith_K (first:=[.ref a]) (h₀:=X.base) I.ok.mod.kin c2.kp (thn (ha pos pins s1 σ H1 _ I1 (a5p gs re1 e2 q1)) fun us s2 ⟨vs,H2,I2,rr,Hs2,ds2,g2,re2,rps,e3,q2⟩=>⟨I2.kIn,?_⟩) hst hpl
 exact b3z (E:=E0) (dvs:=[]) (us:=.ref a::us) (vs:=.ref a::vs) G hr hb .nil b1n I2 (.cons rfl rr) ⟨Hs2,.obj c ns ds::ds2,r,re2.b.i,by rw [append_nil];exact .cons (rp.mono g2.s) rps,e3,q2,re2.tb⟩
theorem b3E {pl:Sem Bool} (T:b7z X Γ m tb) (he:PD X Γ W0 o go)
  (ht:eval (.Call (.Attribute o m apos) [] [] pos) X.env=(do
   let ov ←eval o X.env
   standAt apos.atName
   let (f,first) ←holding [ov] (getMethod ov m pl)
   callWith pos f first (backTo pos (starEach [] X.env)) (backToKw pos (keywordEach [] X.env))):=by rfl):
  PD X Γ W0 (.Call (.Attribute o m apos) [] [] pos) (a3z m tb go []):=by
 intro pins s σ H Q I ⟨B0,B1,Hs,ρ,r,re,e0,q⟩
 refine methodCall_KW (pl:=pl) (thn (he pins s σ H _ I (a1x re e0 q)) fun u s1 ⟨x,H1,I1,rx,Hs1,d,g1,re1,rp,e1,q1⟩=>?_) ht
 obtain ⟨c,ns,ds,F,rfl,hn,htb,e2⟩:=a9b e1
 obtain ⟨a,dx,xs,rfl,ea,rl⟩:=a5Y.mp rp
 obtain rfl:u=Value.ref a:=rx
 obtain ⟨k,ps,cs,hc,⟨f,fd,G,hb,hcs⟩,hr⟩:=T c F htb
 obtain ⟨c1,c2⟩:=hcs c hc
 refine a89 I1 (re1.b.i _ _ ea) c1 c2 (a30 hn) ?_
 exact PySem.W.callWith_K0 (first:=[.ref a]) I1.kIn c2.kp (b3z (E:=E0) (dvs:=[]) (us:=[.ref a]) (vs:=[.ref a]) G hr hb .nil b1n I1 (.cons rfl .nil) ⟨Hs1,[.obj c ns ds],r,re1.b.i,.cons rp .nil,e2,q1,re1.tb⟩)
end
structure a6R (a:Addr) (Hs H Hs' H':Hp):Prop where
 s:Same Hs Hs'
 h:∀b o,b≠a->H b=some o->H' b=some o
 i:Same Hs' H'
 n:∀b o,Hs' b=some o->Hs b=some o\/H b=none
theorem Grow.x {a:Addr} {Hs H Hs' H':Hp} (g:Grow Hs H Hs' H'):a6R a Hs H Hs' H':=⟨g.s,fun b o _ e=>g.h b o e,g.i,g.n⟩
theorem a6R.trans {a:Addr} {Hs H Hs1 H1 Hs2 H2:Hp} (x:a6R a Hs H Hs1 H1) (y:a6R a Hs1 H1 Hs2 H2) (ha:Hs1 a=none) (hb:∃o,H1 a=some o):a6R a Hs H Hs2 H2:=
 ⟨x.s.trans y.s,fun b o hb e=>y.h b o hb (x.h b o hb e),y.i,fun b o e=>by
  rcases y.n b o e with z|z
  ·exact x.n b o z
  ·by_cases hba:b=a
   ·subst hba
    obtain ⟨o',ho'⟩:=hb
    rw [ho'] at z;cases z
   ·right
    cases q:H b with
    | none=>rfl
    | some u=>rw [x.h b u hba q] at z;cases z⟩
theorem a6R.none {a:Addr} {Hs H Hs' H':Hp} (g:a6R a Hs H Hs' H') {ho:HO} (h:Hs a=Option.none) (h':H a=some ho):Hs' a=Option.none:=by
 cases q:Hs' a with
 | none=>rfl
 | some u=>
  rcases g.n a u q with z|z
  ·rw [h] at z;cases z
  ·rw [h'] at z;cases z
inductive spI (Γ:Ct) (F:a4Y) (vs:List V) (H:Hp) (Q:VK) (E:XK):Prop
 | mk (a:Addr) (xs:List V) (Hs:Hp) (o:O) (ho:HO) (ds:List D) (o':O) (ev:vs=.ref a::xs) (sm:Same Hs H) (hs:Hs a=none) (hh:H a=some ho) (ro:RepO Γ Hs o ho) (rl:RepL Γ Hs ds xs) (e:F o ds=some o')
  (q:∀Hs' H' ho',a6R a Hs H Hs' H'->H' a=some ho'->RepO Γ Hs' o' ho'->Q .non H') (tb:Same Γ.tb Hs)
structure a2l (P:Program) (w:World) (K:Frag) (mg:Str->Option Value) (base:Heap) (Γ:Ct) (k:Nat) (c:String) (x:Str) (ps:List Str) (F:a4Y):Prop where
 ex:∃f fd,FnOk P w K mg base CX0 k f fd ps (spI Γ F)/\a4o K fd ps []/\keepIn K (.ref f)=true/\Mk K (Γ.cls c) f/\findCls K (.ref (Γ.cls c)) (.type "type") "__init__" = some (.val (.ref f))
 at_:mg x=some (.ref (Γ.cls c))
 sp:specialIn K (.ref (Γ.cls c)) "__getattribute__" = some (some (.builtin "type.__getattribute__"))
 rd:readsIn K (Γ.cls c) (.type "type")=true
section
variable {X:Cx} {Γ:Ct} {e o:Expr} {es:List Expr} {g go:ME} {gs:List ME} {f m x:Str} {p pos apos:Pos} {k:Nat} {c:String} {ps:List Str} {F:a4Y}
theorem b5b {ds:List D} {r:R} (h:(match F (.obj c [] []) ds with
 | some o=>some (R.ok (.own o))
 | none=>none)=some r):∃o,F (.obj c [] []) ds=some o/\r=.ok (.own o):=by
 cases q:F (.obj c [] []) ds with
 | none=>rw [q] at h;cases h
 | some o=>rw [q] at h;cases h;exact ⟨o,rfl,rfl⟩
theorem b6J {Hs H:Hp} {ds:List D} {vs:List V} {r:R} {Q:VK} (sm:Same Hs H) (rl:RepL Γ Hs ds vs) (e:(match F (.obj c [] []) ds with
 | some o=>some (R.ok (.own o))
 | none=>none)=some r) (q:RQ Γ W0 Hs H r Q) (tb:Same Γ.tb Hs):∀x dx,H x=none->H dx=none->dx≠x->
  spI Γ F (.ref x::(vs++[])) (upd (upd H dx (.own x)) x (.ins (Γ.cls c) dx [])) (fun v H2=>v=.non/\Q (.ref x) H2) E0:=by
 intro x dx hx hd ne
 obtain ⟨o,eo,rfl⟩:=b5b e
 have hxs:Hs x=none:=sm.free hx
 have hds:Hs dx=none:=sm.free hd
 refine ⟨x,vs,Hs,.obj c [] [],_,ds,o,by rw [append_nil],fun b u z=>?_,hxs,a0O,⟨dx,[],rfl,.nil⟩,rl,eo,fun Hs' H' ho' gx e' ro=>⟨rfl,?_⟩,tb⟩
 ·rw [a0J (a0C z hxs),a0J (a0C z hds)];exact sm _ _ z
 ·have g:Grow Hs H Hs' H':=⟨gx.s,fun b u z=>gx.h b u (a0C z hx) (by rw [a0J (a0C z hx),a0J (a0C z hd)];exact z),gx.i,fun b u z=>by
   rcases gx.n b u z with y|y
   ·exact .inl y
   ·right
    by_cases hb:b=x
    ·subst hb;exact hx
    ·rw [a0J hb] at y
     by_cases hb':b=dx
     ·subst hb';exact hd
     ·rw [a0J hb'] at y;exact y⟩
  exact q (.ref x) Hs' H' g ⟨x,ho',rfl,hx,gx.none hxs a0O,e',ro⟩
theorem a50 (h:a2l X.prog X.w X.K X.mg X.base Γ k c x ps F) (hr:Room (k+1) X.A) (hg:Gl X x) (ha:PAD X Γ W0 (e::es) gs) (hdb:(x == ("__debug__" : Str))=false:=by decide) (he:starEach (e::es) X.env=(false,eval e X.env)::starEach es X.env:=by rfl)
  (hpl:(backTo pos (starEach es X.env)).any (·.1)=false:=by rfl):PD X Γ W0 (.Call (.Name x p) (e::es) [] pos) (a49 c F gs):=by
 obtain ⟨f,fd,G,hb,_,M,_⟩:=h.ex
 exact PE.imp (pe_make (E:=E0) (dvs:=[]) (ds:=[]) M G hr hg h.at_ hb .nil b1n ha hdb he hpl) fun _ _ σ H Q _ ⟨B0,B1,Hs,ρ,r,re,e,q⟩=>by
  exact a1J gs (fun vs H1 ⟨Hs1,ds,_,re1,rp,e1,q1⟩=>b6J re1.b.i rp e1 q1 re1.tb) (a5p gs re e q)
theorem pd_make0 (h:a2l X.prog X.w X.K X.mg X.base Γ k c x ps F) (hr:Room (k+1) X.A) (hg:Gl X x) (hdb:(x == ("__debug__" : Str))=false:=by decide):PD X Γ W0 (.Call (.Name x p) [] [] pos) (a49 c F []):=by
 obtain ⟨f,fd,G,hb,_,M,_⟩:=h.ex
 exact PE.imp (pe_make0 (E:=E0) (dvs:=[]) (ds:=[]) M G hr hg h.at_ hb .nil b1n hdb) fun _ _ σ H Q _ ⟨B0,B1,Hs,ρ,r,re,e,q⟩=>by
  exact b6J re.b.i .nil e q re.tb
end
inductive tX (Γ:Ct) (g:MG) (D:Ends) (σ:L2.St) (H:Hp):Prop
 | mk (a:Addr) (B0 B1 Hs:Hp) (ρ:MEnv) (o:O) (ho:HO) (o':O) (re:RE Γ B0 B1 Hs H σ ρ) (hb:B1 a=none) (no:∀(i:Nat) (u:O),ρ[i]?≠some (some (.own u))) (h0:σ[0]?=some (some (.ref a))) (hs:Hs a=none) (hh:H a=some ho) (ro:RepO Γ Hs o ho) (e:g ρ o=some o')
  (q:∀Hs' H' ho',a6R a Hs H Hs' H'->H' a=some ho'->RepO Γ Hs' o' ho'->D.nx σ H')
abbrev PXD (X:Cx) (Γ:Ct) (st:Stmt) (g:MG):Prop:=PS X st (tX Γ g)
abbrev PXsD (X:Cx) (Γ:Ct) (st:List Stmt) (g:MG):Prop:=PSs X st (tX Γ g)
theorem RE.growX {Γ:Ct} {B0 B1 Hs H Hs' H':Hp} {σ:L2.St} {ρ:MEnv} {a:Addr} (r:RE Γ B0 B1 Hs H σ ρ) (g:a6R a Hs H Hs' H') (hb:B1 a=none) (no:∀(i:Nat) (u:O),ρ[i]?≠some (some (.own u))) (hs:Hs a=none):RE Γ B0 B1 Hs' H' σ ρ where
 tb:=r.tb.trans g.s
 b:=⟨r.b.s.trans g.s,fun b o e=>g.h b o (a0C e hb) (r.b.h b o e),g.i,fun b o e=>by
  rcases g.n b o e with z|z
  ·exact r.b.n b o z
  ·exact .inr (r.b.h.free z)⟩
 sh:=fun i d e=>let ⟨v,e1,q⟩:=r.sh i d e;⟨v,e1,q.mono g.s⟩
 own:=fun i o e=>absurd e (no i o)
 apart:=r.apart
 len:=r.len
section
variable {X:Cx} {Γ:Ct} {st:Stmt} {rest:List Stmt} {g h:MG} {e o:Expr} {es:List Expr} {ge:ME} {gs:List ME} {f m x y:Str} {p px pos pos' apos cpos:Pos} {k:Nat} {c:String} {ps:List Str} {F:a4Y}
theorem a3Q:PXsD X Γ [] a7r:=PSs.imp b6d fun D σ H ⟨a,B0,B1,Hs,ρ,o,ho,o',re,hb,no,h0,hs,hh,ro,e,q⟩=>by
 cases e
 exact q Hs H ho (Grow.x (.refl re.b.i)) hh ro
theorem a1F (h1:PXD X Γ st g) (h2:PXsD X Γ rest h):PXsD X Γ (st::rest) (a4N g h):=PSs.imp (b3D h1 h2) fun D σ H ⟨a,B0,B1,Hs,ρ,o,ho,o',re,hb,no,h0,hs,hh,ro,e,q⟩=>by
 unfold a4N at e
 cases z:g ρ o with
 | none=>rw [z] at e;cases e
 | some o1=>
  rw [z] at e
  refine ⟨a,B0,B1,Hs,ρ,o,ho,o1,re,hb,no,h0,hs,hh,ro,z,fun Hs' H' ho' gx hh' ro'=>?_⟩
  exact ⟨a,B0,B1,Hs',ρ,o1,ho',o',re.growX gx hb no hs,hb,no,h0,gx.none hs hh,hh',ro',e,fun Hs2 H2 ho2 gx2 hh2 ro2=>q Hs2 H2 ho2 (gx.trans gx2 (gx.none hs hh) ⟨_,hh'⟩) hh2 ro2⟩
theorem b3B {H:Hp} {y:V} {d:D} (q:Rep Γ H d y):∀{ns:List Str} {ds:List D} {xs:List V},ns.length=ds.length->RepL Γ H ds xs->∃xs',putF f y (ns.zip xs)=(putN f ns).zip xs'/\RepL Γ H (putD f d ns ds) xs'
 | [],ds,xs,hl,r=>by
  refine ⟨[y],?_,.cons q .nil⟩
  cases xs <;> rfl
 | n::ns,[],xs,hl,r=>by cases hl
 | n::ns,d0::ds,xs,hl,r=>by
  obtain ⟨x,r',rfl,qx,t⟩:=a03.mp r
  unfold putN putD
  rw [zip_cons_cons]
  by_cases hn:n=f
  ·rw [if_pos hn,if_pos hn]
   refine ⟨y::r',?_,.cons q t⟩
   show (if n=f then _ else _)=_
   rw [if_pos hn];rfl
  ·rw [if_neg hn,if_neg hn]
   obtain ⟨xs',e1,e2⟩:=b3B q (Nat.succ.inj hl) t
   refine ⟨x::xs',?_,.cons qx e2⟩
   show (if n=f then _ else _)=_
   rw [if_neg hn,e1];rfl
theorem b44 {cs:List String} {ρ:MEnv} {o o':O} (h:a8L cs f ge ρ o=some o'):∃s c ns ds,ge ρ=some (.ok s)/\o=.obj c ns ds/\c∈cs/\ns.length=ds.length/\ns.length<900/\o'=.obj c (putN f ns) (putD f s.val ns ds):=by
 unfold a8L at h
 split at h
 ·rename_i s c ns ds e1
  obtain ⟨⟨h1,h2,h3⟩,h4⟩:=a1q h
  exact ⟨s,c,ns,ds,e1,rfl,by simpa using h1,h2,h3,h4.symm⟩
 ·cases h
theorem b1e {cs:List String} (hK:X.K=Γ.K) (hC:∀c∈cs,Cls Γ.K (Γ.cls c)/\a1C Γ.K (Γ.cls c) f) (hv:PE X (.Name x px) (tVar 0)) (he:PD X Γ W0 e ge) (hs:swapsWith e (some (.Attribute (.Name x px) f pos')) pos.line X.env=pure false:=by rfl):PXD X Γ (.Assign [.Attribute (.Name x px) f pos'] e pos) (a8L cs f ge):=
 PS.imp (ps_fld hv he hs) fun _ _ σ H En _ ⟨a,B0,B1,Hs,ρ,o,ho,o',re,hb,no,h0,hs0,hh,ro,e,q⟩=>by
  obtain ⟨s,c,ns,ds,e1,rfl,hc,hl,h9,rfl⟩:=b44 e
  refine ⟨B0,B1,Hs,ρ,_,re,e1,fun v Hs' H' g' rs=>?_⟩
  obtain ⟨Hs2,g2,_,rp⟩:=rs.share g'
  obtain ⟨dx,xs,rfl,rl⟩:=ro
  obtain ⟨c1,c2⟩:=hC c hc
  obtain ⟨xs',e2,r2⟩:=b3B (f:=f) rp hl (rl.mono g2.s)
  have hs2:Hs2 a=none:=g2.none hs0 hh
  refine ⟨.ref a,h0,a,_,dx,_,rfl,g2.h _ _ hh,hK▸c1,hK▸c2,?_,?_⟩
  ·rw [List.length_zip];exact Nat.lt_of_le_of_lt (Nat.min_le_left _ _) (lt_trans h9 (by decide))
  ·refine q Hs2 _ _ ⟨g2.s,fun b u hb e=>?_,fun b u e=>?_,g2.n⟩ a0O ⟨dx,xs',by rw [e2],r2⟩
   ·rw [a0J hb];exact g2.h _ _ e
   ·rw [a0J (a0C e hs2)];exact g2.i _ _ e
theorem a7h:∀(gs:List ME) {B0 B1 Hs H:Hp} {σ:L2.St} {ρ:MEnv} {ds:List D},RE Γ B0 B1 Hs H σ ρ->a1B gs ρ=some ds->b2f Γ W0 gs σ H (fun vs H1=>∃Hs1,Grow Hs H Hs1 H1/\RepL Γ Hs1 ds vs)
 | [],B0,B1,Hs,H,σ,ρ,ds,re,e=>by
  cases e
  exact ⟨Hs,.refl re.b.i,.nil⟩
 | g::gs,B0,B1,Hs,H,σ,ρ,ds,re,e=>by
  unfold a1B at e
  split at e
  ·rename_i s hs
   cases z:a1B gs ρ with
   | none=>rw [z] at e;cases e
   | some ds'=>
    rw [z] at e
    cases e
    refine ⟨B0,B1,Hs,ρ,_,re,hs,fun v Hs' H' g' rs=>?_⟩
    obtain ⟨Hs2,g2,_,rp⟩:=rs.share g'
    refine a1J gs (fun vs H2 ⟨Hs3,g3,rl⟩=>?_) (a7h gs (re.grow g2) z)
    exact ⟨Hs3,g2.trans g3,.cons (rp.mono g3.s) rl⟩
  ·cases e
theorem pe_base {t:TA} {pl:Sem Bool} {fa:Addr} {fd:FuncData} {sp:Sp} {C:Addr} (G:FnOk X.prog X.w X.K X.mg X.base CX0 k fa fd ps sp) (hb:a4o X.K fd ps []) (hk:keepIn X.K (.ref fa)=true) (hf:findCls X.K (.ref C) (.type "type") m=some (.val (.ref fa)))
  (hm:X.mg x=some (.ref C)) (hsp:specialIn X.K (.ref C) "__getattribute__" = some (some (.builtin "type.__getattribute__"))) (hrd:readsIn X.K C (.type "type")=true) (hr:Room k X.A) (hg:Gl X x) (ha:PA X (e::es) t)
  (hdb:(x == ("__debug__" : Str))=false:=by decide) (hst:starEach (e::es) X.env=(false,eval e X.env)::starEach es X.env:=by rfl) (hpl:(backTo pos (starEach es X.env)).any (·.1)=false:=by rfl)
  (ht:eval (.Call (.Attribute (.Name x p) m apos) (e::es) [] pos) X.env=(do
   let ov ←eval (.Name x p) X.env
   standAt apos.atName
   let (f,first) ←holding [ov] (getMethod ov m pl)
   callWith pos f first (backTo pos (starEach (e::es) X.env)) (backToKw pos (keywordEach [] X.env))):=by rfl):
  PE X (.Call (.Attribute (.Name x p) m apos) (e::es) [] pos) (tCall sp [] E0 t):=by
 intro pins s σ H Q I h
 refine methodCall_KW (pl:=pl) (b0l I hg hm ?_ hdb) ht
 refine PySem.W.method_cls I.kIn hsp (PySem.W.cls_value I.kIn hrd hf (by rfl) ?_)
 have I1:=I.tok (s.toks+1)
 refine callWith_K (first:=[]) (h₀:=X.base) I.ok.mod.kin hk (thn (ha pos pins _ σ H _ I1 h) fun us s2 ⟨vs,H2,I2,rr,q2⟩=>⟨I2.kIn,?_⟩) hst hpl
 exact b3z (E:=E0) (ds:=[]) (dvs:=[]) G hr hb .nil b1n I2 rr q2
theorem a4m {pl:Sem Bool} (h:a2l X.prog X.w X.K X.mg X.base Γ k c x ps F) (hr:Room k X.A) (hg:Gl X x) (hv:PE X (.Name y px) (tVar 0)) (ha:PAD X Γ W0 es gs)
  (hsw:swapsWith (.Call (.Attribute (.Name x p) "__init__" apos) (.Name y px::es) [] cpos) none pos.line X.env=pure false:=by rfl)
  (hdb:(x == ("__debug__" : Str))=false:=by decide) (hst:starEach (.Name y px::es) X.env=(false,eval (.Name y px) X.env)::starEach es X.env:=by rfl) (hpl:(backTo cpos (starEach es X.env)).any (·.1)=false:=by rfl)
  (ht:eval (.Call (.Attribute (.Name x p) "__init__" apos) (.Name y px::es) [] cpos) X.env=(do
   let ov ←eval (.Name x p) X.env
   standAt apos.atName
   let (f,first) ←holding [ov] (getMethod ov "__init__" pl)
   callWith cpos f first (backTo cpos (starEach (.Name y px::es) X.env)) (backToKw cpos (keywordEach [] X.env))):=by rfl):
  PXD X Γ (.Expr (.Call (.Attribute (.Name x p) "__init__" apos) (.Name y px::es) [] cpos) pos) (a5K F gs):=by
 obtain ⟨fa,fd,G,hb,hk,M,hf⟩:=h.ex
 exact PS.imp (a90 (pe_base (pl:=pl) G hb hk hf h.at_ h.sp h.rd hr hg (a1N hv ha hst) hdb hst hpl ht) hsw) fun _ _ σ H En _ ⟨a,B0,B1,Hs,ρ,o,ho,o',re,hb,no,h0,hs0,hh,ro,e,q⟩=>by
  unfold a5K at e
  cases z:a1B gs ρ with
  | none=>rw [z] at e;cases e
  | some ds=>
   rw [z] at e
   refine ⟨.ref a,h0,a1J gs (fun vs H1 ⟨Hs1,g1,rl⟩=>?_) (a7h gs re z)⟩
   refine ⟨a,vs,Hs1,o,ho,ds,o',by rw [append_nil],g1.i,g1.none hs0 hh,g1.h _ _ hh,ro.mono g1.s,rl,e,fun Hs' H' ho' gx hh' ro'=>?_,re.tb.trans g1.s⟩
   exact q Hs' H' ho' (a6R.trans (Grow.x g1) gx (g1.none hs0 hh) ⟨_,g1.h _ _ hh⟩) hh' ro'
end
theorem b59 {Γ:Ct} {Hs H:Hp} (sm:Same Hs H) {N:List Str} {ds:List D} {vs:List V} {v0:V} (hN:0<N.length) (rl:RepL Γ Hs ds vs) (tb:Same Γ.tb Hs):RE Γ Hs Hs Hs H (L2.start N (v0::vs)) (none::a1y (N.length - 1) ds):=by
 have q:=a7z (Γ:=Γ) sm (N:=N.tail) rl tb
 have e1:L2.start N (v0::vs)=some v0::L2.start N.tail vs:=by
  unfold L2.start
  rw [map_cons,length_cons,List.length_tail,cons_append]
  congr 3
  omega
 have e2:N.tail.length=N.length - 1:=List.length_tail
 rw [e2] at q
 rw [e1]
 refine ⟨⟨.refl _,sm,sm,fun _ _ z=>.inl z⟩,fun i d e=>?_,fun i o e=>?_,fun i j o u a ij e f=>?_,by rw [length_cons,length_cons,q.len],tb⟩
 ·cases i with
  | zero=>cases e
  | succ i=>exact q.sh i d e
 ·cases i with
  | zero=>cases e
  | succ i=>
   obtain ⟨a,ho,f1,f2,f3,f4,f5⟩:=q.own i o e
   exact ⟨a,ho,f1,sm.free f2,f3,f4,f5⟩
 ·cases i with
  | zero=>cases e
  | succ i=>
   cases j with
   | zero=>cases f
   | succ j=>exact q.apart i j o u a (fun z=>ij (by rw [z])) e f
theorem b5P (n:Nat) (ds:List D) (i:Nat) (u:O):(none::a1y n ds)[i]?≠some (some (.own u)):=by
 cases i with
 | zero=>intro e;cases e
 | succ i=>
  intro e
  have e:(a1y n ds)[i]?=some (some (.own u)):=e
  unfold a1y at e
  by_cases hi:i<ds.length
  ·rw [getElem?_append_left (by simpa using hi),getElem?_map,getElem?_eq_getElem hi] at e
   cases e
  ·rw [getElem?_append_right (by simpa using hi),getElem?_replicate] at e
   split at e <;> cases e
theorem fn_I {P:Program} {w:World} {K:Frag} {mg:Str->Option Value} {base:Heap} {Γ:Ct} {x qual:Str} {st:Stmt} {f:Addr} {fd:FuncData} {N ps:List Str} {k:Nat} {g:MG} (F:Fun K x qual st f fd) (S:a0r N ps (a0g st)) (hN:0<N.length)
  (body:∀(cdv:Value) (A:Around) (outer:List PySem.Env) (s:Shared) (H:Hp) (E:XK),Room k (A.deeper (envOfC qual (a0g st) s.heap.objs.size f cdv))->PXsD (cxOf CX0 P w K mg base N qual (a0g st) f cdv A outer s H E).nox Γ (a0k st) g):
  FnOk P w K mg base CX0 (k+1) f fd ps (spI Γ (fnI ps.length N.length g)):=by
 refine F.ok S (fun vs H Q E ⟨a,xs,Hs,o,ho,ds,o',ev,sm,hs,hh,ro,rl,e,q,tb⟩=>?_) (fun cdv A outer s H vs Q E hr ⟨a,xs,Hs,o,ho,ds,o',ev,sm,hs,hh,ro,rl,e,q,tb⟩=>?_)
 ·subst ev
  unfold fnI at e
  obtain ⟨h1,_⟩:ds.length+1=ps.length/\True:=by
   by_cases z:ds.length+1=ps.length
   ·exact ⟨z,trivial⟩
   ·rw [if_neg z] at e;cases e
  rw [length_cons,←rl.length,h1]
 ·subst ev
  unfold fnI at e
  by_cases z:ds.length+1=ps.length
  ·rw [if_pos z] at e
   refine ⟨tX Γ g,body cdv A outer s H E hr,a,Hs,Hs,Hs,_,o,ho,o',b59 sm hN rl tb,hs,b5P _ _,?_,hs,hh,ro,e,q⟩
   rfl
  ·rw [if_neg z] at e;cases e
section
variable {X:Cx} {Γ:Ct} {W:XW} {i:Nat} {x:Str} {e ek:Expr} {ge gk:ME} {px tpos pos:Pos}
theorem ixD_N {n j:Nat} {k:Int} (h:ixD n k=some j):ixN n k=some j:=h
theorem a4I (hv:PE X (.Name x px) (tVar i)) (hk:PD X Γ W ek gk) (he:PD X Γ W e ge)
  (ha:∀v,assign (.Subscript (.Name x px) ek tpos) X.env v=(do
   let ov ←holding [v] (eval (.Name x px) X.env)
   let iv ←holding [v,ov] (eval ek X.env)
   standAt tpos
   holding [v,ov,iv] (setItem ov iv v)
   release [v,ov,iv] []):=by intro _;rfl)
  (hs:swapsWithSole [.Subscript (.Name x px) ek tpos] e pos.line X.env=pure false:=by rfl) (hw:swappedStores [.Subscript (.Name x px) ek tpos] e X.env=pure none:=by rfl)
  (h1:(assignEach [.Subscript (.Name x px) ek tpos] X.env).map (·.2)=[assign (.Subscript (.Name x px) ek tpos) X.env]:=by rfl):PSD X Γ W (.Assign [.Subscript (.Name x px) ek tpos] e pos) (a4c i gk ge):=
 PS.imp (ps_asg he (pg_sub hv hk set_list ha) hs hw h1) fun pins s σ H En I ⟨B0,B1,Hs,ρ,o,re,eo,q⟩=>by
  refine (tD_O re eo q).mono fun y H1 ⟨Hs1,s,g1,rs,e5⟩=>?_
  obtain ⟨Hs2,g2,_,rp⟩:=rs.share g1
  obtain ⟨ds,hd,e6⟩:=a7U e5
  have re2:=re.grow g2
  obtain ⟨a,ho,f1,f2,f3,f4,xs,rfl,rl⟩:=re2.own i _ hd
  refine ⟨.ref a,f1,(tD_O re2 e6 (q.from g2.s)).mono fun z H3 ⟨Hs3,sz,g3,rz,e7⟩=>?_⟩
  obtain ⟨Hs4,g4,_,rzp⟩:=rz.share g3
  cases hz:sz.val with
  | int j=>
   rw [hz] at e7 rzp
   dsimp only at e7
   cases hx:ixD ds.length j with
   | none=>rw [hx] at e7;cases e7
   | some n=>
    rw [hx] at e7
    cases e7
    refine ⟨a,xs,j,n,rfl,a0m.mp rzp,g4.h _ _ f4,by rw [←rl.length];exact ixD_N hx,?_⟩
    exact q σ Hs4 _ (g2.s.trans g4.s) ((re2.grow g4).write hd f1 ⟨_,rfl,(rl.mono g4.s).set (rp.mono g4.s) n⟩)
  | non=>rw [hz] at e7;cases e7
  | bl _=>rw [hz] at e7;cases e7
  | str _=>rw [hz] at e7;cases e7
  | tup _=>rw [hz] at e7;cases e7
  | lst _=>rw [hz] at e7;cases e7
  | fn _ _=>rw [hz] at e7;cases e7
  | obj _ _ _=>rw [hz] at e7;cases e7
theorem pd_ixB {a b:Expr} {ga gb:ME} {pos:Pos} (hK:X.K=Γ.K) (ha:PL X Γ W a ga) (hb:PL X Γ W b gb) (hs:b3m b:=by exact fun _ _=>rfl):PD X Γ W (.Subscript a b pos) (a0E (f2 dIx) [ga,gb]):=
 PE.imp (pe_ix (ixd (W:=W) hK) ha hb hs) fun _ _ σ H Q _ t=>by
  refine tL.mono (b3r t) fun x H1 t1=>tL.mono t1 fun y H2 t2=>?_
  obtain ⟨Hs,ds,r,sm,rl,e,q,tb⟩:=t2
  obtain ⟨d,d',rfl,e'⟩:=f2_some e
  obtain ⟨x1,r1,e1,q1,t1⟩:=a03.mp rl
  obtain ⟨y1,e2,q2⟩:=b1a t1
  subst e2
  cases e1
  exact ⟨Hs,d,d',r,sm,q1,q2,e',q⟩
end
structure a3I (K:Frag) (cls:String->Addr) (m qual:Str) (st:Stmt) (ps:List Str) (cs:List String):Prop where
 ex:∃f fd,Fun K m qual st f fd/\a4o K fd ps []/\∀c∈cs,Cls K (cls c)/\Meth K (cls c) m f
structure a3J (K:Frag) (mg:Str->Option Value) (cls:String->Addr) (c:String) (x qual:Str) (st:Stmt) (ps:List Str):Prop where
 ex:∃f fd,Fun K "__init__" qual st f fd/\a4o K fd ps []/\Mk K (cls c) f/\findCls K (.ref (cls c)) (.type "type") "__init__" = some (.val (.ref f))
 at_:mg x=some (.ref (cls c))
 sp:specialIn K (.ref (cls c)) "__getattribute__" = some (some (.builtin "type.__getattribute__"))
 rd:readsIn K (cls c) (.type "type")=true
section
variable {P:Program} {w:World} {K:Frag} {mg:Str->Option Value} {base:Heap} {Γ:Ct}
theorem a1X {x qual:Str} {st:Stmt} {N ps:List Str} {k:Nat} {g:MC} {cs:List String} (L:a3I K Γ.cls x qual st ps cs) (S:a0r N ps (a0g st))
  (body:∀(f:Addr) (cdv:Value) (A:Around) (outer:List PySem.Env) (s:Shared) (H:Hp) (E:XK),Room k (A.deeper (envOfC qual (a0g st) s.heap.objs.size f cdv))->PSsD (cxOf CX0 P w K mg base N qual (a0g st) f cdv A outer s H E).nox Γ W0 (a0k st) g):
  a2k P w K mg base Γ (k+1) x ps (fnD ps.length N.length g) cs:=by
 obtain ⟨f,fd,F,hb,hc⟩:=L.ex
 exact ⟨f,fd,fn_D F S (body f),hb,hc⟩
theorem a1Z {x qual:Str} {c:String} {st:Stmt} {N ps:List Str} {k:Nat} {g:MG} (L:a3J K mg Γ.cls c x qual st ps) (S:a0r N ps (a0g st)) (hN:0<N.length)
  (body:∀(f:Addr) (cdv:Value) (A:Around) (outer:List PySem.Env) (s:Shared) (H:Hp) (E:XK),Room k (A.deeper (envOfC qual (a0g st) s.heap.objs.size f cdv))->PXsD (cxOf CX0 P w K mg base N qual (a0g st) f cdv A outer s H E).nox Γ (a0k st) g):
  a2l P w K mg base Γ (k+1) c x ps (fnI ps.length N.length g):=by
 obtain ⟨f,fd,F,hb,hm,hf⟩:=L.ex
 exact ⟨⟨f,fd,fn_I F S hN (body f),hb,F.kp,hm,hf⟩,L.at_,L.sp,L.rd⟩
theorem a2W {cls:String->Addr} {x qual:Str} {st:Stmt} {ps:List Str} {f:Addr} {oc:Value} {od an:Option Addr} {osl:Array (Option Value)} {kV doc pm cdv ct:Value} {cs:List String}
  (l:K.lookup f=some ⟨oc,od,.func (fnOf x qual (a0p st) (a0k st) (a0g st) .none kV doc pm an cdv ct),osl⟩) (c:codeIn K cdv qual=true) (k:keepIn K (.ref f)=true) (i:isFn K (.ref f)=true)
  (hb:∀(kV doc pm:Value) (an:Option Addr) (cdv ct:Value) (us:List Value),us.length=ps.length->bindArgs (fnOf x qual (a0p st) (a0k st) (a0g st) .none kV doc pm an cdv ct) ⟨us,[]⟩=pure (ps.zip us))
  (hc:∀c∈cs,Cls K (cls c)/\findIn K (.ref (cls c)) x=some (some (.ref f))):a3I K cls x qual st ps cs:=
 ⟨f,_,a9a l c k,(a9a l c k).binds hb,fun c h=>⟨(hc c h).1,(hc c h).2,i,k⟩⟩
theorem a2X {h:Heap} (X:K.In h) (G:h.Ns mainGlobals mg) {cls:String->Addr} {cn:String} {C:Addr} (ec:cls cn=C) {x qual:Str} {st:Stmt} {ps:List Str} {f:Addr} {oc:Value} {od an:Option Addr} {osl:Array (Option Value)} {kV doc pm cdv ct:Value}
  (a:nsIn K mainGlobals x=some (some (.ref C))) (fi:findIn K (.ref C) "__init__" = some (some (.ref f)))
  (l:K.lookup f=some ⟨oc,od,.func (fnOf "__init__" qual (a0p st) (a0k st) (a0g st) .none kV doc pm an cdv ct),osl⟩) (c:codeIn K cdv qual=true) (k:keepIn K (.ref f)=true) (i:isFn K (.ref f)=true)
  (mk:makesIn K C=true) (kc:keepIn K (.ref C)=true) (fc:findCls K (.ref C) (.type "type") "__init__" = some (.val (.ref f)))
  (sp:specialIn K (.ref C) "__getattribute__" = some (some (.builtin "type.__getattribute__"))) (rd:readsIn K C (.type "type")=true)
  (hb:∀(kV doc pm:Value) (an:Option Addr) (cdv ct:Value) (us:List Value),us.length=ps.length->bindArgs (fnOf "__init__" qual (a0p st) (a0k st) (a0g st) .none kV doc pm an cdv ct) ⟨us,[]⟩=pure (ps.zip us)):a3J K mg cls cn x qual st ps:=by
 subst ec
 exact ⟨⟨f,_,a9a l c k,(a9a l c k).binds hb,⟨mk,fi,i,kc⟩,fc⟩,mg_of X G a,sp,rd⟩
end
theorem all_nil {α:Type} {p:α->Prop}:∀c∈([]:List α),p c:=fun _ h=>nomatch h
theorem all_cons {α:Type} {p:α->Prop} {a:α} {l:List α} (h:p a) (t:∀c∈l,p c):∀c∈a::l,p c:=fun c hc=>by
 rcases mem_cons.mp hc with rfl|h'
 ·exact h
 ·exact t c h'
def clsF:List (String×Addr)->String->Addr
 | [],_=>0
 | (c,a)::r,s=>if s=c then a else clsF r s
theorem a34 {c:String} {a:Addr} {r:List (String×Addr)}:clsF ((c,a)::r) c=a:=by unfold clsF;rw [if_pos rfl]
theorem a0w {c s:String} {a b:Addr} {r:List (String×Addr)} (h:s≠c) (t:clsF r s=b):clsF ((c,a)::r) s=b:=by unfold clsF;rw [if_neg h];exact t
structure IsTab (K:Frag) (cls:String->Addr) (C:Addr) (mg:Str->Option Value) (x:Str) (tb:String->Option Bool):Prop where
 ok:∀c b,tb c=some b->Cls K (cls c)/\(findIn K (.ref (cls c)) "__class__" = some (some (.builtin "object.__class__"))/\specialIn K (.builtin "object.__class__") "__get__" = some (some (.builtin "getset_descriptor.__get__"))/\takesIn K (.builtin "object.__class__")=some true/\mroIn K (cls c) (.type "object")=some true)/\kitOne K (.ref (cls c)) (.ref C)=some b
 at_:mg x=some (.ref C)
section
variable {X:Cx} {Γ:Ct} {W:XW}
end
section
variable {X:Cx} {Γ:Ct} {W:XW}
end
section
variable {X:Cx} {Γ:Ct} {W:XW} {es:List Expr} {gs:List ME} {g:ME} {pos:Pos}
theorem padC {c j} (h:PD X Γ W (.Constant c j pos) g) (t:PAD X Γ W es gs):PAD X Γ W (.Constant c j pos::es) (g::gs):=a1w h t rfl
theorem padN {x} (h:PD X Γ W (.Name x pos) g) (t:PAD X Γ W es gs):PAD X Γ W (.Name x pos::es) (g::gs):=a1w h t rfl
theorem padB {a op b} (h:PD X Γ W (.BinOp a op b pos) g) (t:PAD X Γ W es gs):PAD X Γ W (.BinOp a op b pos::es) (g::gs):=a1w h t rfl
theorem padS {a b} (h:PD X Γ W (.Subscript a b pos) g) (t:PAD X Γ W es gs):PAD X Γ W (.Subscript a b pos::es) (g::gs):=a1w h t rfl
theorem padK {f as ks} (h:PD X Γ W (.Call f as ks pos) g) (t:PAD X Γ W es gs):PAD X Γ W (.Call f as ks pos::es) (g::gs):=a1w h t rfl
theorem padT {xs c} (h:PD X Γ W (.Tuple xs c pos) g) (t:PAD X Γ W es gs):PAD X Γ W (.Tuple xs c pos::es) (g::gs):=a1w h t rfl
theorem padU {op a} (h:PD X Γ W (.UnaryOp op a pos) g) (t:PAD X Γ W es gs):PAD X Γ W (.UnaryOp op a pos::es) (g::gs):=a1w h t rfl
end
def constD:PySem.Expr->Option D
 | .Constant (.str s) _ _=>some (.str s)
 | .Constant (.int i) _ _=>some (.int i)
 | _=>none
def dsOf:List PySem.Expr->Option (List D)
 | []=>some []
 | e::es=>match constD e,dsOf es with
  | some d,some ds=>some (d::ds)
  | _,_=>none
section
variable {X:Cx} {Γ:Ct} {W:XW} {a b:Expr} {ga gb:ME} {pos:Pos}
end
section
variable {X:Cx} {Γ:Ct} {W:XW}
theorem psS {i:Nat} {x:Str} {pos' pos:Pos} {e:Expr} {ge:ME} (hN:X.N.Nodup) (hi:X.N[i]?=some x) (he:PD X Γ W e ge) (hx:Loc X.env.scope x:=by first|exact Or.inl rfl|exact Or.inr rfl) (hs:swapsWith e (some (.Name x pos')) pos.line X.env=pure false:=by rfl)
  (hf:X.fn x=true\/X.env.scope.names.lookup x=some .local:=by first|exact .inl rfl|exact .inr rfl|assumption):PSD X Γ W (.Assign [.Name x pos'] e pos) (sSet i ge):=psd_set hN hi hx he hs hf
theorem pbN {j:Nat} {x:Str} {pos:Pos} (hN:X.N.Nodup) (hi:X.N[j]?=some x) (hx:Loc X.env.scope x:=by first|exact Or.inl rfl|exact Or.inr rfl) (hf:X.fn x=true\/X.env.scope.names.lookup x=some .local:=by first|exact .inl rfl|exact .inr rfl|assumption):PBD X Γ (.Name x pos) [j] (a1v j):=pbd_name hN hi hx hf
end
end L3
namespace L3
open PySem PySem.Spec PyProof.Rows L2 PySem.SeqAt
section
variable {X:Cx} {Γ:Ct} {W:XW} {pins:List (Addr×Obj)} {σ:L2.St} {H:Hp} {s:Shared}
end
section
variable {X:Cx} {Γ:Ct} {W:XW} {pins:List (Addr×Obj)} {σ:L2.St} {H:Hp} {s:Shared}
end
section
variable {X:Cx} {Γ:Ct} {W:XW}
theorem hu9_of {A:Around} {k n:Nat} (hr:Room k A) (hn:n<=9:=by decide):A.units+n<cLine:=by
 have:=hr.un
 omega
variable {i:Nat} {x:Str} {px apos cpos pos:Pos}
end
end L3
namespace L3
open PySem PySem.Spec PyProof.Rows L2
section
variable {X:Cx} {Γ:Ct} {W:XW}
theorem RepL.reverse {H:Hp}:∀{ds:List D} {xs:List V},RepL Γ H ds xs->RepL Γ H ds.reverse xs.reverse
 | [],xs,h=>by rw [a2Q.mp h];exact .nil
 | d::ds,xs,h=>by
  obtain ⟨x,r,rfl,q,t⟩:=a03.mp h
  rw [reverse_cons,reverse_cons]
  exact (RepL.reverse t).append (.cons q .nil)
inductive tK (Γ:Ct) (g:ME) (σ:L2.St) (H:Hp) (Q:VK):Prop
 | mk (B0 B1 Hs:Hp) (ρ:MEnv) (ks:List Int) (re:RE Γ B0 B1 Hs H σ ρ) (e:g ρ=okD (.tup (ks.map D.int))) (q:∀b H',Same H H'->H' b=some (.tup (ks.map V.int))->Q (.ref b) H')
abbrev PK (X:Cx) (Γ:Ct) (e:Expr) (g:ME):Prop:=PE X e (tK Γ g)
variable {i:Nat} {x:Str} {px apos cpos pos pos' zpos:Pos} {k:Expr} {gk:ME}
end
section
variable {Γ:Ct} {B0 B1 Hs H Hs' H':Hp} {σ:L2.St} {ρ:MEnv} {a:Addr} {o o':O} {ho ho':HO}
theorem RepW.core (h:RepW Γ Hs a o ho):RepW Γ Hs a o.core ho:=by
 cases o with
 | par b u=>exact h.2
 | lst _=>exact h
 | obj _ _ _=>exact h
 | dic _=>exact h
 | fdic _=>exact h
 | tab _=>exact h
theorem RepW.put (h:RepW Γ Hs a o ho) (h':RepW Γ Hs' a o' ho'):RepW Γ Hs' a (o.put o') ho':=by
 cases o with
 | par b u=>exact ⟨h.1,h'⟩
 | lst _=>exact h'
 | obj _ _ _=>exact h'
 | dic _=>exact h'
 | fdic _=>exact h'
 | tab _=>exact h'
theorem RE.called (r:RE Γ B0 B1 Hs H σ ρ) {i:Nat} (e:ρ[i]?=some (some (.own o))) (ea:σ[i]?=some (some (.ref a))) (g:a6R a Hs H Hs' H') (hs:Hs' a=none) (hh:H' a=some ho') (q:RepW Γ Hs' a o' ho'):RE Γ B0 B1 Hs' H' σ (ρ.set i (some (.own o'))):=by
 obtain ⟨c,hc,e1,e2,e3,e4,_⟩:=r.own i o e
 rw [ea] at e1
 cases e1
 have hi:i<ρ.length:=(List.getElem?_eq_some_iff.mp e).1
 have old:∀(j:Nat) (u:O),(ρ.set i (some (.own o')))[j]?=some (some (.own u))->∃u',ρ[j]?=some (some (.own u')):=fun j u hj=>by
  by_cases h:i=j
  ·subst h;exact ⟨o,e⟩
  ·rw [getElem?_set_ne h] at hj;exact ⟨u,hj⟩
 refine ⟨⟨r.b.s.trans g.s,fun b u z=>g.h b u (a0C z e2) (r.b.h b u z),g.i,fun b u z=>?_⟩,fun j d hj=>?_,fun j u hj=>?_,fun j k u u' c hjk hj hk ha=>?_,by rw [length_set,r.len],r.tb.trans g.s⟩
 ·rcases g.n b u z with z|z
  ·exact r.b.n b u z
  ·exact .inr (r.b.h.free z)
 ·by_cases h:i=j
  ·subst h
   rw [getElem?_set_self hi] at hj
   cases hj
  ·rw [getElem?_set_ne h] at hj
   obtain ⟨v,f1,f2⟩:=r.sh j d hj
   exact ⟨v,f1,f2.mono g.s⟩
 ·by_cases h:i=j
  ·subst h
   rw [getElem?_set_self hi] at hj
   cases hj
   exact ⟨a,ho',ea,e2,hs,hh,q⟩
  ·rw [getElem?_set_ne h] at hj
   obtain ⟨c,hc,f1,f2,f3,f4,f5⟩:=r.own j u hj
   have hne:c≠a:=fun z=>by subst z;exact r.apart i j o u c h e hj ea f1
   refine ⟨c,hc,f1,f2,?_,g.h c hc hne f4,f5.mono g.s⟩
   cases z:Hs' c with
   | none=>rfl
   | some w=>
    rcases g.n c w z with z'|z'
    ·rw [f3] at z';cases z'
    ·rw [f4] at z';cases z'
 ·obtain ⟨w,hj'⟩:=old j u hj
  obtain ⟨w',hk'⟩:=old k u' hk
  exact r.apart j k w w' c hjk hj' hk' ha
end
inductive tM (Γ:Ct) (g:MP) (σ:L2.St) (H:Hp) (Q:VK):Prop
 | mk (B0 B1 Hs:Hp) (ρ:MEnv) (d:D) (ρ':MEnv) (re:RE Γ B0 B1 Hs H σ ρ) (e:g ρ=some (d,ρ')) (q:∀v Hs' H',Same Hs Hs'->RE Γ B0 B1 Hs' H' σ ρ'->Rep Γ Hs' d v->Q v H')
abbrev PM (X:Cx) (Γ:Ct) (e:Expr) (g:MP):Prop:=PE X e (tM Γ g)
inductive spQ (Γ:Ct) (F:MF) (vs:List V) (H:Hp) (Q:VK):Prop
 | mk (a:Addr) (xs ys:List V) (Hs:Hp) (o:O) (ho:HO) (ds es:List D) (d:D) (o':O) (ev:vs=xs++.ref a::ys) (sm:Same Hs H) (hs:Hs a=none) (hh:H a=some ho) (ro:RepW Γ Hs a o ho) (r1:RepL Γ Hs ds xs) (r2:RepL Γ Hs es ys) (e:F o ds es=some (d,o'))
  (q:∀v Hs' H' ho',a6R a Hs H Hs' H'->Hs' a=none->H' a=some ho'->RepW Γ Hs' a o' ho'->Rep Γ Hs' d v->Q v H') (tb:Same Γ.tb Hs)
def spP (Γ:Ct) (F:MF):Sp:=fun vs H Q _=>spQ Γ F vs H Q
def b2g (Γ:Ct) (i:Nat) (hs:List ME):List ME->TA
 | []=>b5L (tVar i) (b2f Γ W0 hs)
 | g::gs=>b5L (tD Γ W0 g) (b2g Γ i hs gs)
section
variable {X:Cx} {Γ:Ct} {i:Nat} {e:Expr} {es:List Expr} {g:ME} {gs hs:List ME}
theorem pap_here (hv:PE X e (tVar i)) (h:PAD X Γ W0 es hs) (hst:starEach (e::es) X.env=(false,eval e X.env)::starEach es X.env:=by rfl):PA X (e::es) (b2g Γ i hs []):=a1N hv h hst
theorem a7A (h:PD X Γ W0 e g) (t:PA X es (b2g Γ i hs gs)) (hst:starEach (e::es) X.env=(false,eval e X.env)::starEach es X.env:=by rfl):PA X (e::es) (b2g Γ i hs (g::gs)):=a1N h t hst
theorem a7i:∀(gs:List ME) {σ:L2.St} {H:Hp} {Q Q':List V->Hp->Prop},(∀v H,Q v H->Q' v H)->b2g Γ i hs gs σ H Q->b2g Γ i hs gs σ H Q'
 | [],_,_,_,_,h,⟨v,e,t⟩=>⟨v,e,a1J hs (fun vs H z=>h _ _ z) t⟩
 | g::gs,_,_,_,_,h,t=>tD.mono t fun v H1 t'=>a7i gs (fun vs H2 z=>h _ _ z) t'
theorem a9e {a:Addr} {es:List D}:∀(gs:List ME) {B0 B1 Hs H:Hp} {σ:L2.St} {ρ:MEnv} {ds:List D},RE Γ B0 B1 Hs H σ ρ->a1B gs ρ=some ds->a1B hs ρ=some es->σ[i]?=some (some (.ref a))->
  b2g Γ i hs gs σ H (fun vs H1=>∃Hs1 xs ys,Grow Hs H Hs1 H1/\vs=xs++.ref a::ys/\RepL Γ Hs1 ds xs/\RepL Γ Hs1 es ys)
 | [],B0,B1,Hs,H,σ,ρ,ds,re,e,e2,hσ=>by
  cases e
  exact ⟨.ref a,hσ,a1J hs (fun vs H1 ⟨Hs1,g1,rl⟩=>⟨Hs1,[],vs,g1,rfl,.nil,rl⟩) (a7h hs re e2)⟩
 | g::gs,B0,B1,Hs,H,σ,ρ,ds,re,e,e2,hσ=>by
  unfold a1B at e
  split at e
  ·rename_i s hs'
   cases z:a1B gs ρ with
   | none=>rw [z] at e;cases e
   | some ds'=>
    rw [z] at e
    cases e
    refine ⟨B0,B1,Hs,ρ,_,re,hs',fun v Hs' H' g' rs=>?_⟩
    obtain ⟨Hs2,g2,_,rp⟩:=rs.share g'
    refine a7i gs (fun vs H2 ⟨Hs3,xs,ys,g3,ev,r1,r2⟩=>?_) (a9e gs (re.grow g2) z e2 hσ)
    exact ⟨Hs3,v::xs,ys,g2.trans g3,by rw [ev];rfl,.cons (rp.mono g3.s) r1,r2⟩
  ·cases e
end
def FnP (P:Program) (w:World) (K:Frag) (mg:Str->Option Value) (base:Heap) (Γ:Ct) (k:Nat) (x:Str) (ps:List Str) (F:MF):Prop:=
 ∃f fd,FnOk P w K mg base CX0 k f fd ps (spP Γ F)/\mg x=some (.ref f)/\keepIn K (.ref f)=true/\a4o K fd ps []
theorem FnP.mono {P:Program} {w:World} {K:Frag} {mg:Str->Option Value} {base:Heap} {Γ:Ct} {j k:Nat} {x:Str} {ps:List Str} {F:MF} (h:FnP P w K mg base Γ j x ps F) (l:j<=k):FnP P w K mg base Γ k x ps F:=by
 obtain ⟨f,fd,G,r⟩:=h
 exact ⟨f,fd,G.mono l,r⟩
section
variable {X:Cx} {Γ:Ct} {k i:Nat} {ps:List Str} {x:Str} {p pos:Pos} {e:Expr} {es:List Expr} {gs hs:List ME} {F:MF}
theorem b4X {ρ ρ':MEnv} {d:D} (h:b4Y i F gs hs ρ=some (d,ρ')):∃o ds es o',ρ[i]?=some (some (.own o))/\a1B gs ρ=some ds/\a1B hs ρ=some es/\F o.core ds es=some (d,o')/\ρ'=ρ.set i (some (.own (o.put o'))):=by
 unfold b4Y at h
 split at h
 ·rename_i o ho
  cases h1:a1B gs ρ with
  | none=>rw [h1] at h;cases h
  | some ds=>
   cases h2:a1B hs ρ with
   | none=>rw [h1,h2] at h;cases h
   | some es=>
    cases h3:F o.core ds es with
    | none=>rw [h1,h2] at h;simp only [Option.bind_some,h3] at h;cases h
    | some q=>
     rw [h1,h2] at h
     simp only [Option.bind_some,h3] at h
     cases h
     exact ⟨o,ds,es,q.2,ho,rfl,rfl,h3,rfl⟩
 ·cases h
theorem pm_fn (h:FnP X.prog X.w X.K X.mg X.base Γ k x ps F) (hr:Room k X.A) (hg:Gl X x) (ha:PA X (e::es) (b2g Γ i hs gs)) (hdb:(x == ("__debug__" : Str))=false:=by decide) (he:starEach (e::es) X.env=(false,eval e X.env)::starEach es X.env:=by rfl) (hpl:(backTo pos (starEach es X.env)).any (·.1)=false:=by rfl):
  PM X Γ (.Call (.Name x p) (e::es) [] pos) (b4Y i F gs hs):=by
 obtain ⟨f,fd,G,hm,hk,hb⟩:=h
 refine PE.imp (b2H (E:=E0) (dvs:=[]) (ds:=[]) G hr hg hm hk hb .nil b1n ha hdb he hpl) fun _ _ σ H Q _ ⟨B0,B1,Hs,ρ,d,ρ',re,e,q⟩=>?_
 obtain ⟨o,ds,es',o',hd,e1,e2,e3,rfl⟩:=b4X e
 obtain ⟨a,ho,f1,f2,f3,f4,f5⟩:=re.own i o hd
 refine a7i gs (fun vs H1 ⟨Hs1,xs,ys,g1,ev,r1,r2⟩=>?_) (a9e gs re e1 e2 f1)
 show spQ Γ F (vs++[]) H1 Q
 rw [append_nil]
 have re1:=re.grow g1
 exact ⟨a,xs,ys,Hs1,o.core,ho,ds,es',d,o',ev,re1.b.i,g1.none f3 f4,g1.h _ _ f4,(f5.mono g1.s).core,r1,r2,e3,fun v Hs' H' ho' gx hn hh ro rp=>q v Hs' H' (g1.s.trans gx.s) (re1.called hd f1 gx hn hh (RepW.put f5 ro)) rp,re1.tb⟩
variable {a b:Expr} {g:MP} {gb:ME}
end
section
variable {X:Cx} {Γ:Ct} {W:XW} {e:Expr} {g:MP} {ge:ME} {pos pos':Pos} {i j:Nat} {x:Str}
theorem b6f (he:PM X Γ e g) (hs:swapsWith e none pos.line X.env=pure false:=by rfl):PSD X Γ W (.Expr e pos) (b08 g):=PS.imp (a90 he hs) fun pins s σ H D I ⟨B0,B1,Hs,ρ,o,re,e,q⟩=>by
 unfold b08 at e
 cases h:g ρ with
 | none=>rw [h] at e;cases e
 | some p=>
  rw [h] at e
  cases e
  exact ⟨B0,B1,Hs,ρ,p.1,p.2,re,h,fun v Hs' H' sm re' rp=>q σ Hs' H' sm re'⟩
end
def remH (H:Hp) (a:Addr):Hp:=fun b=>if b=a then none else H b
theorem b1b {H:Hp} {a:Addr}:remH H a a=none:=if_pos rfl
theorem b2E {H:Hp} {a b:Addr} (h:b≠a):remH H a b=H b:=if_neg h
theorem start_at {N:List Str} {xs ys:List V} {u v:V}:(L2.start N (xs++u::ys)).set xs.length (some v)=L2.start N (xs++v::ys):=by
 unfold L2.start
 rw [map_append,map_append,map_cons,map_cons,append_assoc,append_assoc]
 have:(List.map some xs).length=xs.length:=length_map ..
 rw [←this,List.set_append_right _ _ (le_refl _),sub_self]
 simp
theorem b58 {Γ:Ct} {Hs H:Hp} {N:List Str} {a:Addr} {o:O} {ho:HO} {ds es:List D} {xs ys:List V} (sm:Same Hs H) (hs:Hs a=none) (hh:H a=some ho) (ro:RepW Γ Hs a o ho) (r1:RepL Γ Hs ds xs) (r2:RepL Γ Hs es ys) (tb:Same Γ.tb Hs) (hN:ds.length<N.length):
  RE Γ Hs (remH H a) Hs H (L2.start N (xs++.ref a::ys)) (a7K N.length a o ds es):=by
 have rl:RepL Γ Hs (ds++.non::es) (xs++.non::ys):=r1.append (.cons (a2i.mpr rfl) r2)
 have r0:=a7z (N:=N) sm rl tb
 have no:∀(i:Nat) (u:O),(a1y N.length (ds++.non::es))[i]?≠some (some (.own u)):=fun i u e=>by
  unfold a1y at e
  by_cases hi:i<(ds++D.non::es).length
  ·rw [getElem?_append_left (by simpa using hi),getElem?_map,getElem?_eq_getElem hi] at e
   cases e
  ·rw [getElem?_append_right (by simpa using hi),getElem?_replicate] at e
   split at e <;> cases e
 have r1':RE Γ Hs (remH H a) Hs H (L2.start N (xs++.non::ys)) (a1y N.length (ds++.non::es)):=by
  refine ⟨⟨.refl _,fun b u z=>?_,sm,fun b u z=>.inl z⟩,r0.sh,fun i u e=>absurd e (no i u),r0.apart,r0.len,r0.tb⟩
  by_cases hb:b=a
  ·subst hb;rw [b1b] at z;cases z
  ·rw [b2E hb] at z;exact z
 have hl:ds.length<(L2.start N (xs++.non::ys)).length:=by
  rw [←r0.len]
  unfold a1y
  rw [length_append,length_map,length_append,length_cons]
  omega
 have r2':=r1'.setOwn (i:=ds.length) (o:=.par a o) (a:=a) (ho:=ho) hl b1b hs hh ⟨rfl,ro⟩ fun j u _ e=>absurd e (no j u)
 rw [r1.length,start_at,←r1.length] at r2'
 exact r2'
section
variable {P:Program} {w:World} {K:Frag} {mg:Str->Option Value} {base:Heap} {Γ:Ct}
theorem b3U {Hs H Hs' H':Hp} {a:Addr} (g:Grow Hs (remH H a) Hs' H') (hs:Hs' a=none):a6R a Hs H Hs' H':=
 ⟨g.s,fun b u hb z=>g.h b u (by rw [b2E hb];exact z),g.i,fun b u z=>by
  have hb:b≠a:=a0C z hs
  rcases g.n b u z with y|y
  ·exact .inl y
  ·rw [b2E hb] at y;exact .inr y⟩
theorem fn_P {x qual:Str} {st:Stmt} {f:Addr} {fd:FuncData} {N ps:List Str} {k j:Nat} {g:MC} (F:Fun K x qual st f fd) (S:a0r N ps (a0g st)) (hN:ps.length<=N.length)
  (body:∀(cdv:Value) (A:Around) (outer:List PySem.Env) (s:Shared) (H:Hp) (E:XK),Room k (A.deeper (envOfC qual (a0g st) s.heap.objs.size f cdv))->PSsD (cxOf CX0 P w K mg base N qual (a0g st) f cdv A outer s H E).nox Γ W0 (a0k st) g):
  FnOk P w K mg base CX0 (k+1) f fd ps (spP Γ (fnP j ps.length N.length g)):=by
 refine F.ok S (fun vs H Q E ⟨a,xs,ys,Hs,o,ho,ds,es,d,o',ev,sm,hs,hh,ro,r1,r2,e,q,tb⟩=>?_) (fun cdv A outer s H vs Q E hr ⟨a,xs,ys,Hs,o,ho,ds,es,d,o',ev,sm,hs,hh,ro,r1,r2,e,q,tb⟩=>?_)
 ·obtain ⟨h1,h2,_⟩:=b3Y e
  rw [ev,length_append,length_cons,←r1.length,←r2.length]
  omega
 ·obtain ⟨h1,h2,h3⟩:=b3Y e
  have h3:=h3 a
  subst ev
  refine ⟨tS Γ W0 g,body cdv A outer s H E hr,?_⟩
  have re:=b58 (N:=N) sm hs hh ro r1 r2 tb (by omega)
  cases h:g (a7K N.length a o ds es) with
  | none=>rw [h] at h3;cases h3
  | some out=>
   rw [h] at h3
   refine ⟨Hs,remH H a,Hs,a7K N.length a o ds es,out,re,h,?_⟩
   cases out with
   | next ρ'=>
    intro σ' Hs' H' _ re'
    unfold outP at h3
    dsimp only at h3
    split at h3
    ·rename_i b u hd
     split at h3
     ·rename_i hba
      subst hba
      cases h3
      obtain ⟨c,ho',f1,f2,f3,f4,f5⟩:=re'.own j _ hd
      have f6:c=b/\RepW Γ Hs' c o' ho':=f5
      obtain ⟨z,f7⟩:=f6
      subst z
      exact q .non Hs' H' ho' (b3U re'.b f3) f3 f4 f7 (a2i.mpr rfl)
     ·cases h3
    ·cases h3
   | brk ρ'=>cases h3
   | cont ρ'=>cases h3
   | ret s=>
    cases s with
    | sh _=>cases h3
    | own _=>cases h3
    | two d1 b o1=>
     unfold outP at h3
     dsimp only at h3
     split at h3
     ·rename_i hba
      subst hba
      cases h3
      intro v Hs' H' _ g' rs
      obtain ⟨rp,ho',z1,z2,z3⟩:=rs
      exact q v Hs' H' ho' (b3U g' z1) z1 z2 z3 rp
     ·cases h3
   | exc x=>cases h3
theorem fn_laidP {x:Str} {st:Stmt} {N ps:List Str} {k j:Nat} {g:MC} (L:Laid K mg x st ps) (S:a0r N ps (a0g st)) (hN:ps.length<=N.length)
  (body:∀(f:Addr) (cdv:Value) (A:Around) (outer:List PySem.Env) (s:Shared) (H:Hp) (E:XK),Room k (A.deeper (envOfC x (a0g st) s.heap.objs.size f cdv))->PSsD (cxOf CX0 P w K mg base N x (a0g st) f cdv A outer s H E).nox Γ W0 (a0k st) g):
  FnP P w K mg base Γ (k+1) x ps (fnP j ps.length N.length g):=by
 obtain ⟨f,fd,F,hm,hb⟩:=L.ex
 exact ⟨f,fd,fn_P F S hN (body f),hm,F.kp,hb⟩
end
section
variable {Γ:Ct} {js:List Nat} {gi:MI} {bd:MB} {elt:MP}
section
variable {X:Cx} {scope:Scope} {vars:List Str} {elt' tg iter:Expr} {pos pos' spos:Pos} {i:Nat} {x:Str} {W:XW}
end
end
section
variable {X:Cx} {Γ:Ct} {W:XW} {i:Nat} {x:Str} {px apos cpos pos pos' zpos:Pos} {k:Expr} {gk:ME}
end
section
variable {X:Cx} {Γ:Ct} {W:XW}
end
section
variable {X:Cx} {Γ:Ct} {W:XW} {pos:Pos}
end
section
variable {X:Cx} {Γ:Ct} {W:XW} {i:Nat}
variable {x:Str} {px pos:Pos} {k:Expr} {gk:ME}
inductive tBK (Γ:Ct) (js:List Nat) (v:V) (σ:L2.St) (H:Hp) (Q:L2.St->Hp->Prop):Prop
 | mk (B0 B1 Hs:Hp) (ρ:MEnv) (ks:List Int) (ρ':MEnv) (b:Addr) (re:RE Γ B0 B1 Hs H σ ρ) (ev:v=.ref b) (eb:H b=some (.tup (ks.map V.int))) (e:bTup js (.tup (ks.map D.int)) ρ=some ρ') (q:∀σ':L2.St,RE Γ B0 B1 Hs H σ' ρ'->(∀j:Nat,j∉js->σ'[j]?=σ[j]?)->Q σ' H)
variable {js:List Nat} {elt:ME}
end
section
variable {X:Cx} {Γ:Ct} {W:XW} {st:Stmt} {e:Expr}
theorem b6e:PSD X Γ W st b3x:=fun _ _ _ _ _ _ ⟨_,_,_,_,_,_,e,_⟩=>nomatch e
theorem b4t {sts:List Stmt}:PSsD X Γ W sts b3x:=fun _ _ _ _ _ _ ⟨_,_,_,_,_,_,e,_⟩=>nomatch e
end
theorem b32 {n:Nat}:∀{ds:List D},(∀d∈ds,depK d<=n)->a5a ds<=n
 | [],_=>zero_le _
 | d::ds,h=>by
  have h1:=h d mem_cons_self
  have h2:=b32 (ds:=ds) fun e he=>h e (mem_cons_of_mem _ he)
  show max (depK d) (a5a ds)<=n
  omega
theorem b6y:∀(n:Nat) (d:D),okK n d=true->depK d<=n
 | 0,d,h=>by cases d <;> first|exact le_refl _|cases h
 | n+1,d,h=>by
  cases d with
  | tup ds=>
   have h:ds.all (okK n)=true:=h
   have:=b32 (n:=n) (ds:=ds) fun e he=>b6y n e (all_eq_true.mp h e he)
   show a5a ds+1<=n+1
   omega
  | int i=>exact zero_le _
  | _=>cases h
section
variable {X:Cx} {Γ:Ct} {W:XW} {pins:List (Addr×Obj)} {σ:L2.St} {H:Hp} {s:Shared}
theorem b6X {n:Nat} (ih:∀(d:D) (v:V) (u:Value),okK n d=true->Rep Γ H d v->RelV v u->IsK s.heap d u):∀{ds:List D} {vs:List V} {us:List Value},(∀d∈ds,okK n d=true)->RepL Γ H ds vs->Vals vs us->IsKs s.heap ds us
 | [],vs,us,_,r,q=>by
  rw [a2Q.mp r] at q
  cases q
  exact a3p.mpr rfl
 | d::ds,vs,us,h,r,q=>by
  obtain ⟨x,y,rfl,r1,r2⟩:=a03.mp r
  cases q with
  | cons q1 q2=>exact a1Y.mpr ⟨_,_,rfl,ih d x _ (h d mem_cons_self) r1 q1,b6X ih (fun e he=>h e (mem_cons_of_mem _ he)) r2 q2⟩
theorem isK_of (hK:X.K=Γ.K) (I:Inv X pins σ H s):∀(n:Nat) (d:D) (v:V) (u:Value),okK n d=true->Rep Γ H d v->RelV v u->IsK s.heap d u
 | 0,d,v,u,ok,r,q=>by
  cases d with
  | int i=>
   rw [a0m.mp r] at q
   obtain ⟨t,rfl⟩:=q
   exact a3B.mpr ⟨t,rfl⟩
  | _=>cases ok
 | n+1,d,v,u,ok,r,q=>by
  cases d with
  | int i=>
   rw [a0m.mp r] at q
   obtain ⟨t,rfl⟩:=q
   exact a3B.mpr ⟨t,rfl⟩
  | tup ds=>
   obtain ⟨a,vs,rfl,sq,l⟩:=a1k.mp r
   cases q
   obtain ⟨its,v1,p1,_⟩:=I.tuple (by rw [hK];exact sq)
   exact a32.mpr ⟨a,its.toArray,rfl,p1,b6X (isK_of hK I n) (fun e he=>all_eq_true.mp (show ds.all (okK n)=true from ok) e he) l v1⟩
  | _=>cases ok
theorem b3P (hK:X.K=Γ.K) (I:Inv X pins σ H s) {d:D} {a:Addr} (ok:okT d=true) (r:Rep Γ H d (.ref a)):(a6F X.prog X.w).is s.heap d a:=by
 cases d with
 | tup ds=>exact ⟨isK_of hK I 6 (.tup ds) (.ref a) (.ref a) ok r rfl,b6y 6 (.tup ds) ok⟩
 | _=>cases ok
theorem b3q {kvs:List (D×D)} {xs:List (D×Addr×Value)} (r:TabR Γ H kvs xs):∀x∈xs,okT x.1=true/\Rep Γ H x.1 (.ref x.2.1):=by
 unfold TabR at r
 induction r with
 | nil=>intro x hx;exact nomatch hx
 | @cons p q ps qs h t ih=>
  intro x hx
  rcases mem_cons.mp hx with rfl|hx
  ·obtain ⟨h1,h2,h3,_⟩:=h
   exact ⟨h1▸h2,h1▸h3⟩
  ·exact ih x hx
theorem b5B (hK:X.K=Γ.K) (I:Inv X pins σ H s) {a:Addr} {kvs:List (D×D)} {xs:List (D×Addr×Value)} (e:H a=some (.ext (a6S a xs))) (r:TabR Γ H kvs xs):
  s.heap.DictOfH (a6F X.prog X.w) a xs/\(a == sysModules)=false/\xs.length<=sizeLine:=by
 obtain ⟨⟨⟨x1,x2,x3⟩,o,es,ep,h1,h2,h3,h4⟩,_,_⟩:=(show a3n X.prog X.w H s.heap a (.ext (a6S a xs)) from I.hok a _ e)
 exact ⟨⟨o,es,ep,h1,h2,h3,h4,fun x hx=>b3P hK I (b3q r x hx).1 (b3q r x hx).2,x3⟩,x1,x2⟩
theorem TabR.length {kvs:List (D×D)} {xs:List (D×Addr×Value)} (r:TabR Γ H kvs xs):kvs.length=xs.length:=Paired.length r
theorem TabR.some_eq {kvs:List (D×D)} {xs:List (D×Addr×Value)} (r:TabR Γ H kvs xs) (k:D):(a8M kvs k).isSome=(atKey xs k).isSome:=by
 unfold TabR at r
 induction r with
 | nil=>rfl
 | @cons p q ps qs h t ih=>
  unfold a8M atKey at ih ⊢
  rw [find?_cons,find?_cons,←h.1]
  by_cases e:p.1=k
  ·rw [decide_eq_true e];rfl
  ·rw [decide_eq_false e];exact ih
theorem TabR.put {kvs:List (D×D)} {xs:List (D×Addr×Value)} (r:TabR Γ H kvs xs) {k d:D} {b:Addr} {v:V} {u:Value} (ok:okT k=true) (rk:Rep Γ H k (.ref b)) (rv:RelV v u) (rd:Rep Γ H d v):TabR Γ H (putT kvs k d) (storedH xs k b u):=by
 unfold putT storedH
 rw [r.some_eq k]
 by_cases c:(atKey xs k).isSome=true
 ·rw [if_pos c,if_pos c]
  unfold TabR at r ⊢
  clear c
  induction r with
  | nil=>exact .nil
  | @cons p q ps qs h t ih=>
   rw [map_cons,map_cons]
   refine .cons ?_ ih
   obtain ⟨h1,h2,h3,h4⟩:=h
   unfold putAt
   by_cases e:p.1=k
   ·rw [if_pos e,if_pos (h1.symm.trans e)];exact ⟨h1,h2,h3,v,rv,rd⟩
   ·rw [if_neg e,if_neg (fun z=>e (h1.trans z))];exact ⟨h1,h2,h3,h4⟩
 ·rw [if_neg c,if_neg c]
  exact Paired.snoc r ⟨rfl,ok,rk,v,rv,rd⟩
theorem ext_ok {P:Program} {w:World} {H':Hp} {h:Heap} {a:Addr} {xs:List (D×Addr×Value)} (x:a6S a xs h):a3n P w H' h a (.ext (a6S a xs)):=
 ⟨x,let ⟨_,o,_,_,e,_⟩:=x;⟨o,e⟩,fun _ _ x k=>x.stay k⟩
variable {i:Nat} {x:Str} {px apos cpos pos pos' zpos:Pos} {k:Expr} {gk:ME}
theorem RepW.tab {Hs:Hp} {a:Addr} {o:O} {ho:HO} {kvs:Td} (h:RepW Γ Hs a o ho) (e:o.core=.tab kvs):∃xs,ho=.ext (a6S a xs)/\TabR Γ Hs kvs xs:=by
 have h:=h.core
 rw [e] at h
 exact h
theorem b6h (hN:X.N.Nodup) (hi:X.N[i]?=some x) (hx:Loc X.env.scope x) (hs:swapsWith (.Dict [] [] zpos) (some (.Name x pos')) pos.line X.env=pure false:=by rfl)
  (hf:X.fn x=true\/X.env.scope.names.lookup x=some .local:=by first|exact .inl rfl|exact .inr rfl|assumption):PSD X Γ W (.Assign [.Name x pos'] (.Dict [] [] zpos) pos) (sNewD i):=
 PS.imp (ps_set (te:=fun _ H Q=>∀p,H p=none->Q (.ref p) (upd H p (.ext (a6S p [])))) hN hi hx (fun pins s σ H Q I h=>wpAny_Dict_empty ⟨.ref s.heap.objs.size,_,I.laid (a:=s.heap.objs.size) (o:=.ext (a6S s.heap.objs.size [])) (t':=s.toks) (fun _ _ q=>get?_push_of_some _ q) (le_refl _)
   (ext_ok ⟨⟨beq_eq_false_iff_ne.mpr (Ne.symm (ne_of_lt I.big)),zero_le _,List.nodup_nil⟩,_,#[],0,get?_push_size _ rfl,⟨rfl,rfl,rfl⟩,rfl,rfl⟩),rfl,h _ (I.hok.fresh (le_refl _))⟩) hs hf) fun pins s σ H En I ⟨B0,B1,Hs,ρ,o,re,eo,q⟩=>by
  cases eo
  intro p hp
  refine q _ Hs _ (.refl _) ((re.grow (.newOwn re.b.i hp)).setOwn (by rw [I.len];exact (List.getElem?_eq_some_iff.mp hi).1) (re.b.h.free hp) (re.b.i.free hp) a0O ⟨[],rfl,.nil⟩ fun j u _ hj z=>?_)
  obtain ⟨c,hc,f1,_,_,f4,_⟩:=re.own j u hj
  rw [z] at f1
  cases f1
  rw [hp] at f4
  cases f4
theorem a6z {B0 B1 Hs:Hp} {ρ:MEnv} {d:D} (re:RE Γ B0 B1 Hs H σ ρ) (e:gk ρ=okD d):tD Γ W gk σ H (fun v H1=>∃Hs1,Grow Hs H Hs1 H1/\Rep Γ Hs1 d v):=
 ⟨B0,B1,Hs,ρ,_,re,e,fun v Hs1 H1 g rs=>⟨Hs1,g,rs⟩⟩
theorem a9d {n:Bool} {ρ:MEnv} {r:R} (h:a8c n i gk ρ=some r):∃o kvs d,ρ[i]?=some (some (.own o))/\o.core=.tab kvs/\gk ρ=okD d/\okT d=true/\r=.ok (.sh (.bl (n != (a8M kvs d).isSome))):=by
 unfold a8c at h
 cases h1:a7u i ρ with
 | none=>rw [h1] at h;cases h
 | some p=>
  rw [h1] at h
  dsimp only [Option.bind_some] at h
  obtain ⟨e1,e2⟩:=a5G (o:=p.1) (kvs:=p.2) h1
  cases h2:keyD (gk ρ) with
  | none=>rw [h2] at h;cases h
  | some d=>rw [h2] at h;cases h;obtain ⟨k1,k2⟩:=b1Y h2;exact ⟨p.1,p.2,d,e1,e2,k1,k2,rfl⟩
theorem pc_tab (hK:X.K=Γ.K) (hu:X.A.units+8<cLine) (hv:PE X (.Name x px) (tVar i)) (hk:PD X Γ W k gk):PC X .In k (.Name x px) (tD Γ W (a8c false i gk))/\PC X .NotIn k (.Name x px) (tD Γ W (a8c true i gk)):=by
 constructor
 ·intro pins s σ H Q I ⟨B0,B1,Hs,ρ,r,re,e,q⟩
  obtain ⟨o,kvs,d,hd,ec,eg,ok,rfl⟩:=a9d e
  refine thn (hk pins s σ H _ I (a6z re eg)) fun iv s1 ⟨y,H1,I1,ry,Hs1,g1,rp⟩=>?_
  obtain ⟨a,ho,e1,e2,e3,e4,hq⟩:=(re.grow g1).own i _ hd
  obtain ⟨xs,rfl,tr⟩:=hq.tab ec
  refine thn (hv pins s1 σ H1 (fun v H2=>v=.ref a/\H2=H1) I1 ⟨_,e1,rfl,rfl⟩) fun u s2 ⟨z,H2,I2,rz,e5,e6⟩=>?_
  subst e5 e6
  cases rz
  obtain ⟨dd,lo,_⟩:=b5B hK I2 e4 (tr.mono g1.i)
  cases d with
  | tup ds=>
   obtain ⟨b,vs,rfl,sq,l⟩:=a1k.mp rp
   cases ry
   refine wpAny_in_heap (knd:=a6F X.prog X.w) (show X.A.in1.units+6<cLine from by show X.A.units+1+6<cLine;omega) (b3P hK I2 ok (rp.mono g1.i)) lo dd ⟨.bl _,H2,I2.tok _,rfl,?_⟩
   have:=q (.bl (false != (a8M kvs (.tup ds)).isSome)) Hs1 H2 g1 (RepS.of (a0D.mpr rfl))
   rw [Bool.false_bne,tr.some_eq] at this
   exact this
  | _=>cases ok
 ·intro pins s σ H Q I ⟨B0,B1,Hs,ρ,r,re,e,q⟩
  obtain ⟨o,kvs,d,hd,ec,eg,ok,rfl⟩:=a9d e
  refine thn (hk pins s σ H _ I (a6z re eg)) fun iv s1 ⟨y,H1,I1,ry,Hs1,g1,rp⟩=>?_
  obtain ⟨a,ho,e1,e2,e3,e4,hq⟩:=(re.grow g1).own i _ hd
  obtain ⟨xs,rfl,tr⟩:=hq.tab ec
  refine thn (hv pins s1 σ H1 (fun v H2=>v=.ref a/\H2=H1) I1 ⟨_,e1,rfl,rfl⟩) fun u s2 ⟨z,H2,I2,rz,e5,e6⟩=>?_
  subst e5 e6
  cases rz
  obtain ⟨dd,lo,_⟩:=b5B hK I2 e4 (tr.mono g1.i)
  cases d with
  | tup ds=>
   obtain ⟨b,vs,rfl,sq,l⟩:=a1k.mp rp
   cases ry
   refine wpAny_notIn_heap (knd:=a6F X.prog X.w) (show X.A.in1.units+6<cLine from by show X.A.units+1+6<cLine;omega) (b3P hK I2 ok (rp.mono g1.i)) lo dd ⟨.bl _,H2,I2.tok _,rfl,?_⟩
   have:=q (.bl (true != (a8M kvs (.tup ds)).isSome)) Hs1 H2 g1 (RepS.of (a0D.mpr rfl))
   rw [Bool.true_bne,tr.some_eq] at this
   exact this
  | _=>cases ok
theorem b2G (hK:X.K=Γ.K) (hu:X.A.units+8<cLine) (hv:PE X (.Name x px) (tVar i)) (hk:PD X Γ W k gk):PTD X Γ W (.Compare k [.NotIn] [.Name x px] pos) (a8c true i gk):=PT.imp (b6c (pc_tab hK hu hv hk).2) fun _ _ _ _ _ _ t=>b5I t
theorem b4r {ge:ME} {ρ:MEnv} {o:Out} (h:b4s i gk ge ρ=some o):∃v u kvs d,ge ρ=okD v/\ρ[i]?=some (some (.own u))/\u.core=.tab kvs/\gk ρ=okD d/\okT d=true/\kvs.length<lim/\o=.next (ρ.set i (some (.own (u.put (.tab (putT kvs d v)))))):=by
 unfold b4s at h
 split at h
 ·rename_i v hv
  cases h1:a7u i ρ with
  | none=>rw [h1] at h;cases h
  | some p=>
   rw [h1] at h
   dsimp only [Option.bind_some] at h
   obtain ⟨e1,e2⟩:=a5G (o:=p.1) (kvs:=p.2) h1
   cases h2:keyD (gk ρ) with
   | none=>rw [h2] at h;cases h
   | some d=>
    rw [h2] at h
    dsimp only [Option.bind_some] at h
    obtain ⟨hl,e⟩:=a1q h
    obtain ⟨k1,k2⟩:=b1Y h2
    exact ⟨v,p.1,p.2,d,hv,e1,e2,k1,k2,hl,e.symm⟩
 ·cases h
theorem b6g {e:Expr} {ge:ME} (hK:X.K=Γ.K) (hu:X.A.units+8<cLine) (hv:PE X (.Name x px) (tVar i)) (hk:PD X Γ W k gk) (he:PD X Γ W e ge) (hs:swapsWith e (some (.Subscript (.Name x px) k pos')) pos.line X.env=pure false:=by rfl):
  PSD X Γ W (.Assign [.Subscript (.Name x px) k pos'] e pos) (b4s i gk ge):=by
 intro pins s σ H En I ⟨B0,B1,Hs,ρ,o,re,eo,q⟩
 obtain ⟨v,u,kvs,d,hge,hd,ec,hgk,ok,hl,rfl⟩:=b4r eo
 refine wpAny_Assign_Subscript (thn (he pins s σ H _ I (a6z re hge)) fun r s1 ⟨y,H1,I1,ry,Hs1,g1,rp⟩=>?_) hs
 have re1:=re.grow g1
 obtain ⟨a,ho,e1,_,_,_,_⟩:=re1.own i _ hd
 refine thn (hv pins s1 σ H1 (fun v H2=>v=.ref a/\H2=H1) I1 ⟨_,e1,rfl,rfl⟩) fun u2 s2 ⟨z,H2,I2,rz,e5,e6⟩=>?_
 subst e5 e6
 cases rz
 refine thn (hk pins s2 σ H2 _ I2 (a6z re1 hgk)) fun iv s3 ⟨y3,H3,I3,ry3,Hs3,g3,rp3⟩=>?_
 have re3:=re1.grow g3
 obtain ⟨a',ho,f1,f2,f3,f4,hq0⟩:=re3.own i _ hd
 rw [e1] at f1
 cases f1
 obtain ⟨xs,rfl,tr⟩:=hq0.tab ec
 obtain ⟨dd,lo,hz⟩:=b5B hK I3 f4 (tr.mono g3.i)
 cases d with
 | tup ds=>
  obtain ⟨b,vs,rfl,sq,l⟩:=a1k.mp rp3
  cases ry3
  have tr':=tr.put ok rp3 ry (rp.mono g3.s)
  have hlen:(storedH xs (.tup ds) b r).length<=sizeLine:=by
   have h1:=tr.length
   unfold storedH
   split
   ·rw [length_map];exact hz
   ·rw [length_append,length_singleton,←h1]
    exact le_trans (show kvs.length+1<=lim from hl) (by decide)
  refine wpAny_setItem_heap (knd:=a6F X.prog X.w) (hsz:=hz) (show X.A.in1.units+6<cLine from by show X.A.units+1+6<cLine;omega) (b3P hK I3 ok (rp3.mono g3.i)) dd fun h' dd' hsb=>?_
  obtain ⟨ob,es,ep,h1,h2,h3,h4,_,h5⟩:=dd'
  refine ⟨σ,_,d_write I3 (by rw [f4];exact True.intro) hsb ⟨ob,h1⟩ (ext_ok (xs:=storedH xs (.tup ds) b r) ⟨⟨lo,hlen,h5⟩,ob,es,ep,h1,h2,h3,h4⟩),?_⟩
  exact q σ Hs3 _ (g1.s.trans g3.s) (re3.write hd e1 (RepW.put hq0 ⟨_,rfl,tr'⟩))
 | _=>cases ok
theorem b5c {ρ:MEnv} {r:R} (h:b5d i ρ=some r):∃o kvs,ρ[i]?=some (some (.own o))/\o.core=.tab kvs/\r=.ok (.sh (.int kvs.length)):=by
 unfold b5d at h
 cases h1:a7u i ρ with
 | none=>rw [h1] at h;cases h
 | some p=>
  rw [h1] at h
  cases h
  obtain ⟨e1,e2⟩:=a5G (o:=p.1) (kvs:=p.2) h1
  exact ⟨p.1,p.2,e1,e2,rfl⟩
theorem b7q:a2M X (.builtin "len") (fun ys H Q=>∃a xs,ys=[.ref a]/\H a=some (.ext (a6S a xs))/\Q (.int xs.length) H):=fun pins s σ H ys us Q I r ⟨a,xs,ex,h,q⟩=>by
 subst ex
 obtain ⟨u,rfl,ru⟩:=a6T r
 cases ru
 obtain ⟨⟨⟨x1,x2,x3⟩,o,es,ep,h1,h2,h3,h4⟩,_,_⟩:=(show a3n X.prog X.w H s.heap a (.ext (a6S a xs)) from I.hok a _ h)
 have hsz:es.size=xs.length:=by rw [←length_toList,h4,length_map]
 refine dk_len x1 h1 h2 h3 (by rw [hsz];rw [sizeLine_eq] at x2;omega) fun t tk=>?_
 rw [hsz]
 exact ⟨.int xs.length,H,I.tok tk,⟨t,rfl⟩,q⟩
theorem pd_lenT {p:Pos} (hg:Gl X "len") (hm:X.mg "len" = none) (hv:PE X (.Name x px) (tVar i)) (hs:starEach [.Name x px] X.env=(false,eval (.Name x px) X.env)::starEach [] X.env:=by rfl) (hpl:(backTo pos (starEach [] X.env)).any (·.1)=false:=by rfl):
  PD X Γ W (.Call (.Name "len" p) [.Name x px] [] pos) (b5d i):=
 PE.imp (a6l b7q hg hm PySem.boot_len (a1N hv a4Z hs) (by decide) (by decide) hs hpl) fun _ _ σ H Q _ ⟨B0,B1,Hs,ρ,r,re,e,q⟩=>by
  obtain ⟨o,kvs,hd,ec,rfl⟩:=b5c e
  obtain ⟨a,ho,e1,e2,e3,e4,hq⟩:=re.own i _ hd
  obtain ⟨xs,rfl,tr⟩:=hq.tab ec
  refine ⟨.ref a,e1,a,xs,rfl,e4,?_⟩
  rw [←tr.length]
  exact q _ Hs H (.refl re.b.i) (RepS.of (a0m.mpr rfl))
end
def a7o (tp:List (Addr×List V)) (H:Hp):Hp:=fun b=>match tp.lookup b with
 | some p=>some (.tup p)
 | none=>H b
theorem b3O {α:Type}:∀{l:List (Addr×α)} {n:Addr},(∀p∈l,p.1≠n)->l.lookup n=none
 | [],_,_=>rfl
 | (k,v)::r,n,h=>by
  rw [lookup_cons,beq_false_of_ne (Ne.symm (h (k,v) mem_cons_self))]
  exact b3O fun p hp=>h p (mem_cons_of_mem _ hp)
theorem b6R {α:Type} {c:α}:∀{ts:List Addr} {ps:List α} {j:Nat} {t:Addr},ts.Nodup->ts[j]?=some t->ps[j]?=some c->(ts.zip ps).lookup t=some c
 | [],_,_,_,_,h,_=>by simp at h
 | _::_,[],_,_,_,_,h=>by simp at h
 | f::ts,d::ps,0,t,nd,h1,h2=>by
  simp at h1 h2;subst h1;subst h2
  simp [lookup_cons]
 | f::ts,d::ps,j+1,t,nd,h1,h2=>by
  have h1':ts[j]?=some t:=by simpa using h1
  have ne:(t == f)=false:=beq_false_of_ne (by rintro rfl;exact (nodup_cons.mp nd).1 (mem_of_getElem? h1'))
  rw [zip_cons_cons,lookup_cons,ne]
  exact b6R (nodup_cons.mp nd).2 h1' (by simpa using h2)
theorem a6U {ts:List Addr} {ps:List (List V)} {H:Hp} {b:Addr} (h:b∉ts):a7o (ts.zip ps) H b=H b:=by
 have z:(ts.zip ps).lookup b=none:=b3O fun p hp e=>h (e▸(of_mem_zip (show (p.1,p.2)∈_ from hp)).1)
 unfold a7o;rw [z]
theorem b2l {ts:List Addr} {ps:List (List V)} {H:Hp} {b:Addr} {j:Nat} {p:List V} (nd:ts.Nodup) (h:ts[j]?=some b) (h2:ps[j]?=some p):a7o (ts.zip ps) H b=some (.tup p):=by
 unfold a7o;rw [b6R nd h h2]
theorem refsV:∀(ts:List Addr),Vals (ts.map V.ref) (ts.map Value.ref)
 | []=>.nil
 | t::ts=>.cons rfl (refsV ts)
section
variable {X:Cx} {Γ:Ct} {W:XW} {pins:List (Addr×Obj)} {σ:L2.St} {H:Hp} {s:Shared}
theorem inv_tups (I:Inv X pins σ H s) {h2:Heap} {S:Addr} {acc:Array Value} {c tk:Nat} {ts:List Addr} {ps:List (List V)} (old:∀b o,s.heap.get? b=some o->h2.get? b=some o) (fS:s.heap.objs.size<=S) (fT:∀t∈ts,S<t) (nd:ts.Nodup) (hz:ts.length<=sizeLine) (hl:ts.length=ps.length)
  (hS:h2.get? S=some { cls:=.type "list",data:=.seq acc c }) (hacc:acc.toList=ts.map Value.ref) (hp:∀(j:Nat) (b:Addr) (p:List V),ts[j]?=some b->ps[j]?=some p->p.length<=sizeLine/\∃its:List Value,Vals p its/\IsTup h2 b its.toArray):
  Inv X pins σ (upd (a7o (ts.zip ps) H) S (.lst (ts.map V.ref))) { s with heap:=h2,toks:=tk }:=by
 have tbig:∀t∈ts,s.heap.objs.size<=t:=fun t ht=>le_trans fS (le_of_lt (fT t ht))
 have nS:H S=none:=I.hok.fresh fS
 have nT:∀t∈ts,H t=none:=fun t ht=>I.hok.fresh (tbig t ht)
 have at0:∀b,b∉ts->b≠S->upd (a7o (ts.zip ps) H) S (.lst (ts.map V.ref)) b=H b:=fun b h1 h2=>by rw [a0J h2,a6U h1]
 have sm:Same H (upd (a7o (ts.zip ps) H) S (.lst (ts.map V.ref))):=fun b o e=>by
  rw [at0 b (fun hb=>by rw [nT b hb] at e;cases e) (fun hb=>by rw [hb,nS] at e;cases e)];exact e
 have hok:HOk X.prog X.w (upd (a7o (ts.zip ps) H) S (.lst (ts.map V.ref))) h2:=fun b o e=>by
  by_cases hb:b=S
  ·subst hb
   rw [a0O] at e;cases e
   exact ⟨by rw [length_map];exact hz,ts.map Value.ref,c,refsV ts,by rw [hS,←hacc]⟩
  ·by_cases hbt:b∈ts
   ·obtain ⟨j,hj⟩:=List.mem_iff_getElem?.mp hbt
    have hjl:j<ps.length:=by rw [←hl];exact (List.getElem?_eq_some_iff.mp hj).1
    have hpj:ps[j]?=some ps[j]:=getElem?_eq_getElem hjl
    rw [a0J hb,b2l nd hj hpj] at e
    cases e
    obtain ⟨z1,its,z2,z3⟩:=hp j b _ hj hpj
    exact ⟨z1,its,z2,z3⟩
   ·rw [at0 b hbt hb] at e
    exact (I.hok b o e).stay (fun d v _ z=>old d v z) (fun d z=>sm _ _ z) (fun d ws z=>sm _ _ z) fun d ob v z=>sm _ _ z
 exact I.un (t':=tk) ⟨fun b o e _ _ _=>old b o e,fun b o e _ _ _=>⟨o.slots,old b o e⟩,fun b o e n _=>by
   have hb:=lt_size e
   rw [at0 b (fun hm=>absurd (lt_of_lt_of_le hb (tbig b hm)) (lt_irrefl _)) (fun hm=>absurd (lt_of_lt_of_le hb (hm▸fS)) (lt_irrefl _))];exact n,fun b o e _=>⟨o,old b o e⟩,fun b ws e=>sm _ _ e,fun b o z e=>sm _ _ e,fun b ps e=>⟨#[],by rw [sm _ _ e];simp⟩⟩ hok
theorem b09 {H:Hp}:∀{kvs:List (D×D)} {ps:List (List V)} {ts:List Addr},kvs.length=ps.length->ts.length=ps.length->(∀(j:Nat) (p:D×D) (q:List V),kvs[j]?=some p->ps[j]?=some q->∃x y,q=[x,y]/\Rep Γ H p.1 x/\Rep Γ H p.2 y)->(∀(j:Nat) (t:Addr) (q:List V),ts[j]?=some t->ps[j]?=some q->H t=some (.tup q))->
  RepL Γ H (kvs.map fun q=>D.tup [q.1,q.2]) (ts.map V.ref)
 | [],ps,ts,h1,h2,_,_=>by
  cases ps with
  | nil=>
   cases ts with
   | nil=>exact .nil
   | cons _ _=>simp at h2
  | cons _ _=>simp at h1
 | p::kvs,ps,ts,h1,h2,h3,h4=>by
  cases ps with
  | nil=>simp at h1
  | cons q ps=>
   cases ts with
   | nil=>simp at h2
   | cons t ts=>
    obtain ⟨x,y,rfl,r1,r2⟩:=h3 0 p q rfl rfl
    exact .cons (a1k.mpr ⟨t,[x,y],rfl,.inl (.inl (h4 0 t _ rfl rfl)),.cons r1 (.cons r2 .nil)⟩) (b09 (by simpa using h1) (by simpa using h2) (fun j p' q' a b=>h3 (j+1) p' q' (by simpa using a) (by simpa using b)) fun j t' q' a b=>h4 (j+1) t' q' (by simpa using a) (by simpa using b))
theorem b5C {kvs:List (D×D)} {xs:List (D×Addr×Value)} (r:TabR Γ H kvs xs):∃ps:List (List V),ps.length=xs.length/\∀(j:Nat) (q:List V),ps[j]?=some q->∃(k:D) (a:Addr) (u:Value) (v:V) (p:D×D),xs[j]?=some (k,a,u)/\kvs[j]?=some p/\q=[.ref a,v]/\RelV v u/\Rep Γ H p.1 (.ref a)/\Rep Γ H p.2 v:=by
 unfold TabR at r
 induction r with
 | nil=>exact ⟨[],rfl,fun j q h=>by simp at h⟩
 | @cons p x ps' xs' h t ih=>
  obtain ⟨ps,hl,hp⟩:=ih
  obtain ⟨h1,h2,h3,v,h4,h5⟩:=h
  refine ⟨[.ref x.2.1,v]::ps,by rw [length_cons,length_cons,hl],fun j q hq=>?_⟩
  cases j with
  | zero=>cases hq;exact ⟨x.1,x.2.1,x.2.2,v,p,rfl,rfl,rfl,h4,h3,h5⟩
  | succ j=>
   obtain ⟨k,a,u,v',p',z1,z2,z3⟩:=hp j q (by simpa using hq)
   exact ⟨k,a,u,v',p',by simpa using z1,by simpa using z2,z3⟩
theorem b3e {i:Nat} {ρ:MEnv} {r:R} (h:a9c i ρ=some r):∃o kvs,ρ[i]?=some (some (.own o))/\o.core=.tab kvs/\r=.ok (.own (.lst (kvs.map fun q=>D.tup [q.1,q.2]))):=by
 unfold a9c at h
 cases h1:a7u i ρ with
 | none=>rw [h1] at h;cases h
 | some p=>
  rw [h1] at h
  cases h
  obtain ⟨e1,e2⟩:=a5G (o:=p.1) (kvs:=p.2) h1
  exact ⟨p.1,p.2,e1,e2,rfl⟩
theorem bt_listT:bootBuiltins "list" = some (.type "list"):=by decide +kernel
theorem b6o {i:Nat} {x:Str} {px p apos cpos pos:Pos} (hc:X.calm=true) (hg:Gl X "list") (hm:X.mg "list" = none) (hv:PE X (.Name x px) (tVar i))
  (hbase:attributeBase (.Name x px) "items" X.env (eval (.Name x px) X.env)=eval (.Name x px) X.env:=by rfl) (hline:(apos.endLine == cpos.line)=true:=by rfl)
  (hs3:starEach [.Call (.Attribute (.Name x px) "items" apos) [] [] cpos] X.env=(false,eval (.Call (.Attribute (.Name x px) "items" apos) [] [] cpos) X.env)::starEach [] X.env:=by rfl) (hs0:starEach [] X.env=[]:=by rfl) (hpl2:(backTo pos (starEach [] X.env)).any (·.1)=false:=by rfl):
  PD X Γ W (.Call (.Name "list" p) [.Call (.Attribute (.Name x px) "items" apos) [] [] cpos] [] pos) (a9c i):=by
 intro pins s σ H Q I ⟨B0,B1,Hs,ρ,r,re,e,q⟩
 obtain ⟨o,kvs,hd,ec,rfl⟩:=b3e e
 obtain ⟨a,ho,e1,e2,e3,e4,hq⟩:=re.own i _ hd
 obtain ⟨xs,rfl,tr⟩:=hq.tab ec
 refine wpAny_Call_Name_kw (a84 I hg hm bt_listT (PyProof.Rows.callWith_type1 ?_ hs3 hpl2) (by decide) (by decide))
 rw [hs3]
 show wpAny _ _ (spliced ((false,eval (.Call (.Attribute (.Name x px) "items" apos) [] [] cpos) X.env)::backTo pos (starEach [] X.env))) _ _ s
 refine Calls.spliced_cons (wpAny_Call_method0_late hbase hline (thn (hv pins s σ H (fun v H2=>v=.ref a/\H2=H) I ⟨_,e1,rfl,rfl⟩) fun u s1 ⟨z,H1,I1,rz,z5,z6⟩=>?_))
 subst z5 z6
 cases rz
 obtain ⟨⟨⟨x1,x2,x3⟩,ob,es,ep,h1,h2,h3,h4⟩,_,_⟩:=(show a3n X.prog X.w H1 s1.heap a (.ext (a6S a xs)) from I1.hok a _ e4)
 have hsz:es.size=xs.length:=by rw [←length_toList,h4,length_map]
 refine ⟨"dict","dict.items",PySem.F.plainAttrs_dict,PySem.F.slot_dict_items,PySem.F.type_dict_items,⟨ob,h1,h2.1⟩,fun b zb=>by cases zb;exact ⟨ob,h1,h2.2.1⟩,Calls.callWith_builtin rfl (PySem.evalArgs_none (di_view x1 h1 h2 ?_))⟩
 rw [hs0]
 refine Calls.spliced_nil ?_
 have h1':(s1.heap.push { cls:=.type "dict_items",data:=.fields #[.ref a] }).get? a=some ob:=get?_push_of_some _ h1
 refine di_call (s:={ s1 with heap:=s1.heap.push { cls:=.type "dict_items",data:=.fields #[.ref a] } }) (I1.ok.hd hc) ⟨_,get?_push_size _ rfl,rfl,rfl⟩ h1' h3 (by rw [hsz];exact x2) fun h' tk acc c ts hk hS hl hG hacc=>?_
 have hS:h'.get? (s1.heap.objs.size+1)=some { cls:=.type "list",data:=.seq acc c }:=by rw [←size_push];exact hS
 have hG:DG es (s1.heap.objs.size+1) h' ts:=by rw [←size_push];exact hG
 obtain ⟨ps,hpl,hps⟩:=b5C tr
 have nd:ts.Nodup:=hG.rise.imp fun h=>ne_of_lt h
 have hlt:ts.length=ps.length:=by rw [hpl,hl,hsz]
 have I2:=inv_tups (tk:=tk) I1 (fun b o e=>hk b o (get?_push_of_some _ e)) (le_succ _) hG.above nd (by rw [hl,hsz];exact x2) hlt hS hacc fun j b p hj hpj=>by
  obtain ⟨k,a',u,v,kv,z1,z2,rfl,z4,_⟩:=hps j p hpj
  obtain ⟨e',g1,g2⟩:=hG.pairs j b hj
  have ee:e'=⟨b66 k,.ref a',u⟩:=by
   have:es.toList[j]?=some e':=by rw [getElem?_toList];exact g1
   rw [h4,getElem?_map,z1] at this
   exact (Option.some.inj this).symm
  subst ee
  exact ⟨by show 2<=sizeLine;decide,[.ref a',u],.cons rfl (.cons z4 .nil),⟨_,g2,rfl,_,rfl⟩⟩
 have fT:∀t∈ts,H1 t=none:=fun t ht=>I1.hok.fresh (le_trans (le_succ _) (le_of_lt (hG.above t ht)))
 have fS:H1 (s1.heap.objs.size+1)=none:=I1.hok.fresh (le_succ _)
 have SN:s1.heap.objs.size+1∉ts:=fun hm=>absurd (hG.above _ hm) (lt_irrefl _)
 have sm:=re.b.i
 have smP:∀G:Hp,(∀t∈ts,G t=none)->Same G (a7o (ts.zip ps) G):=fun G hG b o e=>by rw [a6U fun hm=>by rw [hG b hm] at e;cases e];exact e
 have hsN:∀t∈ts,Hs t=none:=fun t ht=>sm.free (fT t ht)
 have sS:=smP Hs hsN
 have sH:=smP H1 fT
 have fS2:a7o (ts.zip ps) H1 (s1.heap.objs.size+1)=none:=by rw [a6U SN];exact fS
 have fSs:a7o (ts.zip ps) Hs (s1.heap.objs.size+1)=none:=by rw [a6U SN];exact sm.free fS
 refine ⟨.ref (s1.heap.objs.size+1),_,I2,by rw [size_push];rfl,q (.ref (s1.heap.objs.size+1)) (a7o (ts.zip ps) Hs) _ ⟨sS,sH.trans (a1E fS2),fun b o z=>?_,fun b o z=>?_⟩ (RepN.mk _ _ rfl fS fSs a0O ⟨_,rfl,b09 (by rw [hpl,←tr.length]) hlt (fun j p' q' h1 h2=>?_) fun j t q' h1 h2=>b2l nd h1 h2⟩)⟩
 ·rw [a0J (a0C z fSs)]
  by_cases hb:b∈ts
  ·obtain ⟨j,hj⟩:=List.mem_iff_getElem?.mp hb
   have hpj:ps[j]?=some (ps[j]'(by rw [←hlt];exact (List.getElem?_eq_some_iff.mp hj).1)):=getElem?_eq_getElem _
   rw [b2l nd hj hpj] at z ⊢;exact z
  ·rw [a6U hb] at z ⊢;exact sm _ _ z
 ·by_cases hb:b∈ts
  ·exact .inr (fT b hb)
  ·rw [a6U hb] at z;exact .inl z
 ·obtain ⟨k,a',u,v,kv,z1,z2,rfl,z4,z5,z6⟩:=hps j q' h2
  rw [h1] at z2
  cases z2
  exact ⟨_,_,rfl,z5.mono sS,z6.mono sS⟩
end
structure FunD (K:Frag) (x:Str) (st:Stmt) (n:Int) (f:Addr) (fd:FuncData):Prop where
 ex:∃(oc:Value) (od:Option Addr) (dV kV doc pm:Value) (an:Option Addr) (cdv ct:Value) (osl:Array (Option Value)),
  fd=fnOf x x (a0p st) (a0k st) (a0g st) dV kV doc pm an cdv ct/\K.lookup f=some ⟨oc,od,.func fd,osl⟩/\codeIn K cdv x=true
 kp:keepIn K (.ref f)=true
structure LaidD (K:Frag) (mg:Str->Option Value) (x:Str) (st:Stmt) (ps:List Str) (n:Int):Prop where
 ex:∃f fd t,FunD K x st n f fd/\mg x=some (.ref f)/\a4o K fd ps []/\a4o K fd ps [.int n t]
def FnND (P:Program) (w:World) (K:Frag) (mg:Str->Option Value) (base:Heap) (Γ:Ct) (k:Nat) (x:Str) (ps:List Str) (F:List D->Option R) (n:Int):Prop:=
 ∃f fd t,FnOk P w K mg base CX0 k f fd ps (spD Γ W0 F)/\mg x=some (.ref f)/\keepIn K (.ref f)=true/\a4o K fd ps []/\a4o K fd ps [.int n t]
section
variable {P:Program} {w:World} {K:Frag} {mg:Str->Option Value} {base:Heap} {Γ:Ct}
theorem FnND.all {k:Nat} {x:Str} {ps:List Str} {F:List D->Option R} {n:Int} (h:FnND P w K mg base Γ k x ps F n):FnN P w K mg base Γ k x ps F:=by
 obtain ⟨f,fd,t,G,hm,hk,hb,_⟩:=h
 exact ⟨f,fd,G,hm,hk,hb⟩
theorem fn_laidD {x:Str} {st:Stmt} {N ps:List Str} {k:Nat} {g:MC} {n:Int} (L:LaidD K mg x st ps n) (S:a0r N ps (a0g st))
  (body:∀(f:Addr) (cdv:Value) (A:Around) (outer:List PySem.Env) (s:Shared) (H:Hp) (E:XK),Room k (A.deeper (envOfC x (a0g st) s.heap.objs.size f cdv))->PSsD (cxOf CX0 P w K mg base N x (a0g st) f cdv A outer s H E).nox Γ W0 (a0k st) g):
  FnND P w K mg base Γ (k+1) x ps (fnD ps.length N.length g) n:=by
 obtain ⟨f,fd,t,F,hm,hb,hb2⟩:=L.ex
 refine ⟨f,fd,t,?_,hm,F.kp,hb,hb2⟩
 obtain ⟨oc,od,dV,kV,doc,pm,an,cdv,ct,osl,rfl,lk,hcd⟩:=F.ex
 refine fn_of lk hcd S (fun vs H Q E ⟨Hs,ds,r,sm,rl,e,q,tb⟩=>?_) (fun A outer s H vs Q E hr ⟨Hs,ds,r,sm,rl,e,q,tb⟩=>?_)
 ·rw [←rl.length];exact (a7B e).1
 ·obtain ⟨_,e⟩:=a7B e
  refine ⟨tS Γ W0 g,PSs.nox (body f cdv A outer s H E hr),?_⟩
  cases h:g (a1y N.length ds) with
  | none=>rw [h] at e;cases e
  | some o=>
   rw [h] at e
   refine ⟨Hs,H,Hs,a1y N.length ds,o,a7z sm rl tb,h,?_⟩
   cases o with
   | next ρ'=>cases e;exact fun σ' Hs' H' _ re=>q .non Hs' H' re.b (RepS.of (a2i.mpr rfl))
   | brk ρ'=>cases e
   | cont ρ'=>cases e
   | ret s=>cases e;exact fun v Hs' H' _ g' rs=>q v Hs' H' g' rs
   | exc x=>cases e;exact fun Hs' H' _ g'=>q Hs' H' g'
theorem laidD_mk {h:Heap} (X:K.In h) (G:h.Ns mainGlobals mg) {x:Str} {st:Stmt} {ps:List Str} {n:Int} {f td:Addr} {oc tc:Value} {od an te:Option Addr} {osl ts:Array (Option Value)} {kV doc pm cdv ct:Value} {tn:Nat} {tt:Tok} (a:nsIn K mainGlobals x=some (some (.ref f)))
  (l:K.lookup f=some ⟨oc,od,.func (fnOf x x (a0p st) (a0k st) (a0g st) (.ref td) kV doc pm an cdv ct),osl⟩) (c:codeIn K cdv x=true) (k:keepIn K (.ref f)=true) (t:K.lookup td=some ⟨tc,te,.seq #[.int n tt] tn,ts⟩)
  (hb:∀(kV doc pm:Value) (an:Option Addr) (cdv ct:Value) (us:List Value),us.length=ps.length->∃q,bindArgs (fnOf x x (a0p st) (a0k st) (a0g st) (.ref td) kV doc pm an cdv ct) ⟨us,[]⟩=(seqItems? (.ref td) >>= q)/\q (some #[.int n tt])=pure (ps.zip us))
  (hb2:∀(kV doc pm:Value) (an:Option Addr) (cdv ct:Value) (us:List Value),us.length+1=ps.length->∃q,bindArgs (fnOf x x (a0p st) (a0k st) (a0g st) (.ref td) kV doc pm an cdv ct) ⟨us,[]⟩=(seqItems? (.ref td) >>= q)/\q (some #[.int n tt])=pure (ps.zip (us++[.int n tt]))):LaidD K mg x st ps n:=by
 refine ⟨f,_,tt,⟨⟨oc,od,.ref td,kV,doc,pm,an,cdv,ct,osl,rfl,l,c⟩,k⟩,mg_of X G a,fun s us hK hl=>?_,fun s us hK hl=>?_⟩
 ·rw [append_nil] at hl ⊢
  obtain ⟨q,h1,h2⟩:=hb kV doc pm an cdv ct us hl
  exact .of_defaults rfl (hK td _ t) rfl h1 h2
 ·rw [length_append,length_singleton] at hl
  obtain ⟨q,h1,h2⟩:=hb2 kV doc pm an cdv ct us hl
  exact .of_defaults rfl (hK td _ t) rfl h1 h2
end
section
variable {X:Cx} {Γ:Ct} {k:Nat} {ps:List Str} {x:Str} {p pos:Pos} {e:Expr} {es:List Expr} {gs:List ME} {F:List D->Option R} {n:Int}
theorem pd_fnDf (h:FnND X.prog X.w X.K X.mg X.base Γ k x ps F n) (hr:Room k X.A) (hg:Gl X x) (ha:PAD X Γ W0 (e::es) gs) (hdb:(x == ("__debug__" : Str))=false:=by decide) (he:starEach (e::es) X.env=(false,eval e X.env)::starEach es X.env:=by rfl) (hpl:(backTo pos (starEach es X.env)).any (·.1)=false:=by rfl):
  PD X Γ W0 (.Call (.Name x p) (e::es) [] pos) (b0u F n gs):=by
 obtain ⟨f,fd,t,G,hm,hk,_,hb⟩:=h
 refine PE.imp (b2H (E:=E0) (dvs:=[.int n]) (ds:=[.int n t]) G hr hg hm hk hb (.cons ⟨t,rfl⟩ .nil) b1n ha hdb he hpl) fun _ _ σ H Q _ ⟨B0,B1,Hs,ρ,r,re,e,q⟩=>?_
 refine a1J gs (fun vs H1 ⟨Hs1,ds,g1,re1,rl,e1,q1⟩=>?_) (a5p gs re e q)
 exact ⟨Hs1,ds++[.int n],r,re1.b.i,rl.append (.cons (a0m.mpr rfl) .nil),e1,q1,re1.tb⟩
end
end L3
namespace L3
open PySem
section
variable {ρ ρ' ρ1:MEnv} {a b c:ME} {x y:MC} {o:Option Out} {s t:S} {r:Option R}
theorem a0F (h:x ρ=some (.ret s)):sSeq x y ρ=some (.ret s):=by unfold sSeq;rw [h]
theorem a0b (h:x ρ=some (.next ρ')) (h2:y ρ'=o):sSeq x y ρ=o:=by unfold sSeq;rw [h];exact h2
theorem if_t {u v:MC} (h:c ρ=okB true) (h2:u ρ=o):sIf c u v ρ=o:=by unfold sIf;rw [h];exact h2
theorem if_f {u v:MC} (h:c ρ=okB false) (h2:v ρ=o):sIf c u v ρ=o:=by unfold sIf;rw [h];exact h2
theorem a0s {i:Nat} (h:a ρ=some (.ok s)):sSet i a ρ=some (.next (ρ.set i (some s))):=by unfold sSet;rw [h];rfl
theorem a0I (h:a ρ=some (.ok s)):sRet a ρ=some (.ret s):=by unfold sRet;rw [h];rfl
theorem a1u {i:Nat} (h:x (dem i ρ)=o):sDem i x ρ=o:=h
theorem a5I {i:Nat} {ds:List D} (h0:ρ[i]?=some (some (.own (.lst ds)))) (h:a ρ=some (.ok s)) (hl:ds.length<lim):a5d i a ρ=some (.next (ρ.set i (some (.own (.lst (ds++[s.val])))))):=by
 unfold a5d ownL;rw [h0];dsimp only;rw [h];dsimp only [a4V];rw [if_pos hl]
theorem extend_s {i:Nat} {ds es:List D} (h0:ρ[i]?=some (some (.own (.lst ds)))) (h:a ρ=some (.ok s)) (hi:a76 s.val=some es) (hl:ds.length+es.length<=lim):a9Y i a ρ=some (.next (ρ.set i (some (.own (.lst (ds++es)))))):=by
 unfold a9Y ownL;rw [h0];dsimp only;rw [h];dsimp only [a4V];rw [hi];dsimp only;rw [if_pos hl]
theorem b48 {it:MI} {bd:MB} {body:MC} {ds:List D} (h:it ρ=some (.ok ds)) (h2:forD bd body ds ρ=o):sFor it bd body ρ=o:=by unfold sFor;rw [h];exact h2
theorem a0x {np n:Nat} {g:MC} {ds:List D} (hl:ds.length=np) (h:g (a1y n ds)=some (.ret s)):fnD np n g ds=some (.ok s):=by unfold fnD;rw [if_pos hl,h];rfl
theorem a0c {f:D->D->Option R} (h1:a ρ=some (.ok s)) (h2:b ρ=some (.ok t)) (h3:f s.val t.val=r):eBin f a b ρ=r:=by unfold eBin;rw [h1];dsimp only [a06];rw [h2];exact h3
theorem un_e {f:D->Option R} (h1:a ρ=some (.ok s)) (h3:f s.val=r):eUn f a ρ=r:=by unfold eUn;rw [h1];exact h3
theorem a35 (h:a ρ=okB true) (h2:b ρ=r):eAnd a b ρ=r:=by unfold eAnd;rw [h];exact h2
theorem a6Q (h:a ρ=okB false):eAnd a b ρ=okB false:=by unfold eAnd;rw [h];rfl
theorem or_t (h:a ρ=okB true):eOr a b ρ=okB true:=by unfold eOr;rw [h];rfl
theorem or_f (h:a ρ=okB false) (h2:b ρ=r):eOr a b ρ=r:=by unfold eOr;rw [h];exact h2
theorem a0W {F:List D->Option R} {e1:ME} {s1:S} (h1:e1 ρ=some (.ok s1)) (h:F [s1.val]=r):a0v F [e1] ρ=r:=by unfold a0v a0X;rw [h1];exact h
theorem a0S {F:List D->Option R} {e1 e2:ME} {s1 s2:S} (h1:e1 ρ=some (.ok s1)) (h2:e2 ρ=some (.ok s2)) (h:F [s1.val,s2.val]=r):a0v F [e1,e2] ρ=r:=by
 unfold a0v a0X;rw [h1];dsimp only [a06];unfold a0X;rw [h2];exact h
theorem a1S {F:List D->Option R} {e1 e2 e3:ME} {s1 s2 s3:S} (h1:e1 ρ=some (.ok s1)) (h2:e2 ρ=some (.ok s2)) (h3:e3 ρ=some (.ok s3)) (h:F [s1.val,s2.val,s3.val]=r):a0v F [e1,e2,e3] ρ=r:=by
 unfold a0v a0X;rw [h1];dsimp only [a06];unfold a0X;rw [h2];dsimp only [a06];unfold a0X;rw [h3];exact h
theorem tup2 {e1 e2:ME} {s1 s2:S} (h1:e1 ρ=some (.ok s1)) (h2:e2 ρ=some (.ok s2)):eTup [e1,e2] ρ=okD (.tup [s1.val,s2.val]):=a0S h1 h2 rfl
theorem lenB {e1:ME} {s1:S} {n:Int} (h1:e1 ρ=some (.ok s1)) (h:dLen s1.val=okI n):a0E (f1 dLen) [e1] ρ=okI n:=by
 have:a0X [e1] ρ (f1 dLen)=okI n:=a0W (F:=f1 dLen) h1 h
 unfold a0E;rw [this];rfl
theorem a02 {i:Nat} {d:D} (h:ρ[i]?=some (some (.sh d))):eVar i ρ=okD d:=by unfold eVar;rw [h]
theorem a8l {i:Nat} (h:ρ[i]?=some (some s)) (hn:s.nd=true:=by rfl):eAny i ρ=okD s.val:=by
 unfold eAny;rw [h]
 cases s with
 | sh d=>rfl
 | own o=>cases o with
  | lst _=>rfl
  | obj _ _ _=>rfl
  | dic _=>cases hn
  | par _ _=>cases hn
  | fdic _=>cases hn
  | tab _=>cases hn
 | two _ _ _=>cases hn
theorem a75 {ds:List D} (h:a ρ=some (.ok s)) (hi:a76 s.val=some ds):iSeq a ρ=some (.ok ds):=by unfold iSeq;rw [h];dsimp only;rw [hi];rfl
theorem a2t {i:Int} (h:a ρ=okI i) (hr:a5k i=true):a05 a ρ=some (.ok (rng 0 i)):=by unfold a05 iArg;rw [h];dsimp only [S.val];rw [if_pos hr]
theorem rep_e {ds:List D} {k:Int} (h1:a ρ=okL ds) (h2:b ρ=okI k) (hk:-(2 ^ 60)<=k/\k<2 ^ 60/\ds.length * k.toNat<=lim):eRep a b ρ=okL (replicate k.toNat ds).flatten:=by
 unfold eRep;rw [h1];dsimp only;rw [h2];exact if_pos hk
theorem add_int (i j:Int):dAdd (.int i) (.int j)=okI (i+j):=rfl
theorem sub_int (i j:Int):dSub (.int i) (.int j)=okI (i - j):=rfl
theorem mul_int {i j:Int} (h:(a5O i || a5O j)=true):dMul (.int i) (.int j)=okI (i * j):=by unfold dMul;exact if_pos h
theorem a0M {i j:Int} (h:0<j):dMod (.int i) (.int j)=okI (i % j):=by unfold dMod;exact if_pos h
theorem b3v {i:Int} (h1:-(2 ^ 60)<=i) (h2:i<=2 ^ 60):a5O i=true:=by unfold a5O;simp;omega
theorem mulL {i j:Int} (h1:-(2 ^ 60)<=i) (h2:i<=2 ^ 60):dMul (.int i) (.int j)=okI (i * j):=mul_int (by rw [b3v h1 h2];rfl)
theorem mulR {i j:Int} (h1:-(2 ^ 60)<=j) (h2:j<=2 ^ 60):dMul (.int i) (.int j)=okI (i * j):=mul_int (by rw [b3v h1 h2,Bool.or_true])
theorem ix_tup {ds:List D} {d:D} {n:Nat} (h:ds[n]?=some d):dIx (.tup ds) (.int n)=okD d:=by
 have hn:n<ds.length:=(List.getElem?_eq_some_iff.mp h).1
 show (atD ds (n:Int)).bind okD=_
 unfold atD ixD
 rw [if_pos (by omega),if_pos (by omega)]
 simp [h]
theorem a4d {ds:List D} {d:D} {n:Nat} (h:ds[n]?=some d):dIx (.lst ds) (.int n)=okD d:=ix_tup h
theorem rng0 (n:Nat):rng 0 n=(List.range n).map fun k:Nat=>D.int k:=by
 unfold rng
 rw [Int.sub_zero,toNat_natCast]
 exact List.map_congr_left fun k _=>by rw [Int.zero_add]
theorem a1r {n:Nat} (h:n<=1000000):a5k (n:Int)=true:=by unfold a5k;simp;omega
theorem b3X {bd:MB} {body:MC} (Iv:Nat->MEnv->Prop):∀(ds:List D) (i:Nat) (ρ:MEnv),Iv i ρ->(∀(k:Nat) (ρ:MEnv) (d:D),ds[k]?=some d->Iv (i+k) ρ->∃ρ1 ρ2,bd d ρ=some ρ1/\body ρ1=some (.next ρ2)/\Iv (i+k+1) ρ2)->
  ∃ρ',forD bd body ds ρ=some (.next ρ')/\Iv (i+ds.length) ρ'
 | [],i,ρ,h,_=>⟨ρ,rfl,h⟩
 | d::ds,i,ρ,h,hs=>by
  obtain ⟨ρ1,ρ2,e1,e2,h2⟩:=hs 0 ρ d rfl h
  obtain ⟨ρ',e3,h3⟩:=b3X Iv ds (i+1) ρ2 h2 fun k ρ d' e hk=>by
   obtain ⟨r1,r2,f1,f2,f3⟩:=hs (k+1) ρ d' (by simpa using e) (by rw [show i+(k+1)=i+1+k by omega];exact hk)
   exact ⟨r1,r2,f1,f2,by rw [show i+1+k+1=i+(k+1)+1 by omega];exact f3⟩
  refine ⟨ρ',?_,by rw [length_cons,show i+(ds.length+1)=i+1+ds.length by omega];exact h3⟩
  unfold forD
  rw [e1]
  dsimp only
  rw [e2]
  exact e3
theorem a7d {bd:MB} {body:MC} (Iv:Nat->MEnv->Prop) (n:Nat) (h0:Iv 0 ρ) (hs:∀(k:Nat) (ρ:MEnv),k<n->Iv k ρ->∃ρ1 ρ2,bd (.int k) ρ=some ρ1/\body ρ1=some (.next ρ2)/\Iv (k+1) ρ2):
  ∃ρ',forD bd body (rng 0 n) ρ=some (.next ρ')/\Iv n ρ':=by
 obtain ⟨ρ',e,h⟩:=b3X (bd:=bd) (body:=body) Iv (rng 0 n) 0 ρ h0 fun k ρ d e hk=>by
  rw [rng0,getElem?_map] at e
  have hk':k<n:=by
   by_cases z:k<n
   ·exact z
   ·rw [getElem?_eq_none (by rw [length_range];omega)] at e;cases e
  rw [getElem?_range hk'] at e
  cases e
  rw [Nat.zero_add] at hk ⊢
  exact hs k ρ hk' hk
 rw [Nat.zero_add,rng0,length_map,length_range] at h
 exact ⟨ρ',e,h⟩
end
theorem b6a {lo hi:Int} (h1:a5k lo=true) (h2:a5k hi=true) (h3:(hi - lo).toNat<=lim):a6H (.int lo) (.int hi)=okL (rng lo hi):=by
 unfold a6H
 exact if_pos ⟨h1,h2,h3⟩
theorem b3S (ns:List Int):intsOf (ns.map D.int)=some ns:=by
 induction ns with
 | nil=>rfl
 | cons n ns ih=>rw [map_cons];unfold intsOf;rw [ih];rfl
inductive a8m:Nat->D->Prop
 | non (n):a8m n .non
 | bl (n b):a8m n (.bl b)
 | int (n i):a8m n (.int i)
 | str (n x):a8m n (.str x)
 | tup (n ds):(∀d∈ds,a8m n d)->ds.length<=lim->a8m (n+1) (.tup ds)
 | lst (n ds):(∀d∈ds,a8m n d)->ds.length<=lim->a8m (n+1) (.lst ds)
theorem a8m.mono:∀{n m:Nat} {d:D},a8m n d->n<=m->a8m m d:=by
 intro n m d h
 induction h generalizing m with
 | non n=>exact fun _=>.non m
 | bl n b=>exact fun _=>.bl m b
 | int n i=>exact fun _=>.int m i
 | str n x=>exact fun _=>.str m x
 | tup n ds hd hl ih=>
  intro hm
  obtain ⟨k,rfl⟩:∃k,m=k+1:=⟨m - 1,by omega⟩
  exact .tup k ds (fun d hd=>ih d hd (by omega)) hl
 | lst n ds hd hl ih=>
  intro hm
  obtain ⟨k,rfl⟩:∃k,m=k+1:=⟨m - 1,by omega⟩
  exact .lst k ds (fun d hd=>ih d hd (by omega)) hl
theorem b3d (i:Int):dEq (.int i) (.int i)=okB true:=by unfold dEq eqF;simp
theorem a8b (i:Str):dEq (.str i) (.str i)=okB true:=by unfold dEq eqF;simp
section
variable {ρ ρ' ρ1:MEnv} {a b c:ME}
theorem b0x {α:Type} {bd:MB} {cond elt:ME} {g:α->D} {f:α->D} {p:α->Bool}:∀(xs:List α) (acc:List D),(∀x∈xs,∃ρ1,bd (g x) ρ=some ρ1/\cond ρ1=okB (p x)/\(p x=true->∃s,elt ρ1=some (.ok s)/\s.val=f x))->acc.length+xs.length<=lim->a6I bd cond elt ρ (xs.map g) acc=okL (acc++(xs.filter p).map f)
 | [],acc,_,hl=>by
  rw [map_nil]
  unfold a6I
  rw [if_pos (by simpa using hl)]
  simp
 | x::xs,acc,h,hl=>by
  obtain ⟨ρ1,e1,e2,e3⟩:=h x mem_cons_self
  rw [map_cons]
  unfold a6I
  rw [e1]
  dsimp only
  rw [e2]
  show (if p x=true then (a06 (elt ρ1) fun y=>a6I bd cond elt ρ (xs.map g) (acc++[y])) else a6I bd cond elt ρ (xs.map g) acc)=_
  rw [length_cons] at hl
  by_cases hp:p x=true
  ·obtain ⟨s,e4,e5⟩:=e3 hp
   rw [if_pos hp,e4]
   show a6I bd cond elt ρ (xs.map g) (acc++[s.val])=_
   rw [e5,b0x xs (acc++[f x]) (fun y hy=>h y (mem_cons_of_mem _ hy)) (by rw [length_append,length_singleton];omega)]
   simp [hp]
  ·rw [if_neg hp,b0x xs acc (fun y hy=>h y (mem_cons_of_mem _ hy)) (by omega)]
   simp [hp]
theorem b3g {α:Type} {js:List Nat} {it:MI} {bd:MB} {cond elt:ME} (xs:List α) (g:α->D) (p:α->Bool) (f:α->D) (hi:it ρ=some (.ok (xs.map g))) (hl:xs.length<=lim)
  (h:∀x∈xs,∃ρ1,bd (g x) (a1c js ρ)=some ρ1/\cond ρ1=okB (p x)/\(p x=true->∃s,elt ρ1=some (.ok s)/\s.val=f x)):a1R js it bd cond elt ρ=okL ((xs.filter p).map f):=by
 unfold a1R
 rw [hi]
 dsimp only
 rw [if_pos (by rw [length_map];exact hl),b0x xs [] h (by simpa using hl)]
 rfl
theorem a3q {α:Type} {js:List Nat} {it:MI} {bd:MB} {elt:ME} (xs:List α) (g:α->D) (f:α->D) (hi:it ρ=some (.ok (xs.map g))) (hl:xs.length<=lim)
  (h:∀x∈xs,∃ρ1,bd (g x) (a1c js ρ)=some ρ1/\∃s,elt ρ1=some (.ok s)/\s.val=f x):a1R js it bd a22 elt ρ=okL (xs.map f):=by
 rw [b3g xs g (fun _=>true) f hi hl fun x hx=>?_]
 ·rw [List.filter_eq_self.mpr (fun _ _=>rfl)]
 ·obtain ⟨ρ1,e1,e2⟩:=h x hx
  exact ⟨ρ1,e1,rfl,fun _=>e2⟩
theorem rngN (lo:Nat) (hi:Nat):rng lo hi=(List.range (hi - lo)).map fun k:Nat=>D.int (lo+k:Nat):=by
 unfold rng
 have:((hi:Int) - (lo:Int)).toNat=hi - lo:=by omega
 rw [this]
 exact List.map_congr_left fun k _=>by congr 1
theorem shl_int {i j:Int} (h0:0<=j) (h1:j<=1000000) (h2:i.natAbs<2 ^ 64):dShl (.int i) (.int j)=okI (i * 2 ^ j.toNat):=by unfold dShl;exact if_pos ⟨h0,h1,h2⟩
theorem le_d (i j:Int):dLe (.int i) (.int j)=okB (decide (i<=j)):=rfl
theorem lt_d (i j:Int):dLt (.int i) (.int j)=okB (decide (i<j)):=rfl
theorem gt_d (i j:Int):dGt (.int i) (.int j)=okB (decide (j<i)):=rfl
theorem eq_d (i j:Int):dEq (.int i) (.int j)=okB (decide (i=j)):=rfl
theorem ne_d (i j:Int):dNe (.int i) (.int j)=okB (!decide (i=j)):=rfl
theorem le_t {i j:Int} (h:i<=j):dLe (.int i) (.int j)=okB true:=by rw [le_d,decide_eq_true h]
theorem le_f {i j:Int} (h:¬i<=j):dLe (.int i) (.int j)=okB false:=by rw [le_d,decide_eq_false h]
theorem lt_t {i j:Int} (h:i<j):dLt (.int i) (.int j)=okB true:=by rw [lt_d,decide_eq_true h]
theorem lt_f {i j:Int} (h:¬i<j):dLt (.int i) (.int j)=okB false:=by rw [lt_d,decide_eq_false h]
theorem gt_t {i j:Int} (h:j<i):dGt (.int i) (.int j)=okB true:=by rw [gt_d,decide_eq_true h]
theorem gt_f {i j:Int} (h:¬j<i):dGt (.int i) (.int j)=okB false:=by rw [gt_d,decide_eq_false h]
theorem eq_t {i j:Int} (h:i=j):dEq (.int i) (.int j)=okB true:=by rw [eq_d,decide_eq_true h]
theorem eq_f {i j:Int} (h:¬i=j):dEq (.int i) (.int j)=okB false:=by rw [eq_d,decide_eq_false h]
theorem ne_t {i j:Int} (h:¬i=j):dNe (.int i) (.int j)=okB true:=by rw [ne_d,decide_eq_false h];rfl
theorem ne_f {i j:Int} (h:i=j):dNe (.int i) (.int j)=okB false:=by rw [ne_d,decide_eq_true h];rfl
theorem a7e {F:List D->Option R} {e1 e2 e3 e4:ME} {s1 s2 s3 s4:S} {r:Option R} (h1:e1 ρ=some (.ok s1)) (h2:e2 ρ=some (.ok s2)) (h3:e3 ρ=some (.ok s3)) (h4:e4 ρ=some (.ok s4)) (h:F [s1.val,s2.val,s3.val,s4.val]=r):a0v F [e1,e2,e3,e4] ρ=r:=by
 unfold a0v a0X;rw [h1];dsimp only [a06];unfold a0X;rw [h2];dsimp only [a06];unfold a0X;rw [h3];dsimp only [a06];unfold a0X;rw [h4];exact h
theorem call6 {F:List D->Option R} {e1 e2 e3 e4 e5 e6:ME} {s1 s2 s3 s4 s5 s6:S} {r:Option R} (h1:e1 ρ=some (.ok s1)) (h2:e2 ρ=some (.ok s2)) (h3:e3 ρ=some (.ok s3)) (h4:e4 ρ=some (.ok s4)) (h5:e5 ρ=some (.ok s5)) (h6:e6 ρ=some (.ok s6)) (h:F [s1.val,s2.val,s3.val,s4.val,s5.val,s6.val]=r):a0v F [e1,e2,e3,e4,e5,e6] ρ=r:=by
 unfold a0v a0X;rw [h1];dsimp only [a06];unfold a0X;rw [h2];dsimp only [a06];unfold a0X;rw [h3];dsimp only [a06];unfold a0X;rw [h4];dsimp only [a06];unfold a0X;rw [h5];dsimp only [a06];unfold a0X;rw [h6];exact h
theorem a20 {f:D->D->Option R} {a b:ME} {ρ:MEnv}:eBin f a b ρ=a06 (a ρ) (fun x=>a06 (b ρ) (f x)):=rfl
theorem a4f {i j:Int} (h:0<j) (h2:j<1073741824):a7t (.int i) (.int j)=okI (i / j):=by unfold a7t;exact if_pos ⟨h,h2⟩
theorem neg_d (i:Int):dNeg (.int i)=okI (-i):=rfl
theorem int_t:dInt (.bl true)=okI 1:=rfl
theorem int_f:dInt (.bl false)=okI 0:=rfl
theorem a53:lim=1000000:=rfl
theorem b1Z {d:D} {ds:List D}:dIx (.lst (d::ds)) (.int 0)=okD d:=a4d (n:=0) rfl
theorem b40 {d e:D} {ds:List D}:dIx (.lst (d::e::ds)) (.int 1)=okD e:=a4d (n:=1) rfl
theorem ix_l2 {d e f:D} {ds:List D}:dIx (.lst (d::e::f::ds)) (.int 2)=okD f:=a4d (n:=2) rfl
theorem a1g {d:D} {ds:List D}:dIx (.tup (d::ds)) (.int 0)=okD d:=ix_tup (n:=0) rfl
theorem a1I {d e:D} {ds:List D}:dIx (.tup (d::e::ds)) (.int 1)=okD e:=ix_tup (n:=1) rfl
theorem a48 {d e f:D} {ds:List D}:dIx (.tup (d::e::f::ds)) (.int 2)=okD f:=ix_tup (n:=2) rfl
theorem ix_t3 {d e f g:D} {ds:List D}:dIx (.tup (d::e::f::g::ds)) (.int 3)=okD g:=ix_tup (n:=3) rfl
theorem range2_e {a b:ME} {ρ:MEnv} {i j:Int} (h:a ρ=okI i) (h2:b ρ=okI j) (hr:a5k i=true) (hr2:a5k j=true):b0o a b ρ=some (.ok (rng i j)):=by
 unfold b0o iArg
 rw [h];dsimp only [S.val];rw [h2];dsimp only [S.val];rw [if_pos ⟨hr,hr2⟩]
theorem b11 {α:Type} {bd:MB} {body:MC} (g:α->D) (Iv:List α->MEnv->Prop):∀(xs pre:List α) (ρ:MEnv),Iv pre ρ->(∀(q:List α) (x:α) (post:List α) (ρ:MEnv),pre++xs=q++x::post->Iv q ρ->∃ρ1 ρ2,bd (g x) ρ=some ρ1/\(body ρ1=some (.next ρ2)\/body ρ1=some (.cont ρ2))/\Iv (q++[x]) ρ2)->
  ∃ρ',forD bd body (xs.map g) ρ=some (.next ρ')/\Iv (pre++xs) ρ'
 | [],pre,ρ,h,_=>⟨ρ,rfl,by simpa using h⟩
 | x::xs,pre,ρ,h,hs=>by
  obtain ⟨ρ1,ρ2,e1,e2,h2⟩:=hs pre x xs ρ rfl h
  obtain ⟨ρ',e3,h3⟩:=b11 g Iv xs (pre++[x]) ρ2 h2 fun q y post ρ hy hi=>hs q y post ρ (by rw [←hy];simp) hi
  refine ⟨ρ',?_,by simpa using h3⟩
  rw [map_cons]
  unfold forD
  rw [e1]
  dsimp only
  rcases e2 with e2|e2 <;> rw [e2] <;> exact e3
theorem b3W {α:Type} {bd:MB} {body:MC} (g:α->D) (Iv:List α->MEnv->Prop) (xs:List α) {ρ:MEnv} (h0:Iv [] ρ) (hs:∀(q:List α) (x:α) (post:List α) (ρ:MEnv),xs=q++x::post->Iv q ρ->∃ρ1 ρ2,bd (g x) ρ=some ρ1/\(body ρ1=some (.next ρ2)\/body ρ1=some (.cont ρ2))/\Iv (q++[x]) ρ2):
  ∃ρ',forD bd body (xs.map g) ρ=some (.next ρ')/\Iv xs ρ':=by
 have:=b11 (bd:=bd) (body:=body) g Iv xs [] ρ h0 (by simpa using hs)
 simpa using this
end
section
variable {ρ:MEnv} {a b e1 e2 e3 e4:ME} {s s1 s2 s3 s4:S} {o o1:O} {r:Option O} {q:Option R} {F:a4Y} {c:String} {f m:Str} {ns:List Str} {ds:List D} {cs:List String}
theorem b0C (h:e1 ρ=some (.ok s1)) (h2:F o [s1.val]=r):a5K F [e1] ρ o=r:=by unfold a5K a1B;rw [h];exact h2
theorem base2 (h:e1 ρ=some (.ok s1)) (h':e2 ρ=some (.ok s2)) (h2:F o [s1.val,s2.val]=r):a5K F [e1,e2] ρ o=r:=by
 unfold a5K a1B a1B;rw [h];dsimp only;rw [h'];exact h2
theorem seqI {g h:MG} (h1:g ρ o=some o1) (h2:h ρ o1=r):a4N g h ρ o=r:=by unfold a4N;rw [h1];exact h2
theorem a7s {np n:Nat} {g:MG} (hl:ds.length+1=np) (h:g (none::a1y (n - 1) ds) o=r):fnI np n g o ds=r:=by unfold fnI;rw [if_pos hl];exact h
theorem b01 (h:e1 ρ=some (.ok s)) (hc:cs.contains c=true) (hl:ns.length=ds.length) (h9:ns.length<900):a8L cs f e1 ρ (.obj c ns ds)=some (.obj c (putN f ns) (putD f s.val ns ds)):=by
 unfold a8L;rw [h];dsimp only;rw [if_pos ⟨hc,hl,h9⟩]
theorem make0 (h:F (.obj c [] []) []=some o):a49 c F [] ρ=some (.ok (.own o)):=by unfold a49 a0X;dsimp only;rw [h]
theorem make1 (h1:e1 ρ=some (.ok s1)) (h:F (.obj c [] []) [s1.val]=some o):a49 c F [e1] ρ=some (.ok (.own o)):=by
 unfold a49 a0X;rw [h1];dsimp only [a06];unfold a0X;dsimp only;rw [h]
theorem b6K (h1:e1 ρ=some (.ok s1)) (h2:e2 ρ=some (.ok s2)) (h:F (.obj c [] []) [s1.val,s2.val]=some o):a49 c F [e1,e2] ρ=some (.ok (.own o)):=by
 unfold a49 a0X;rw [h1];dsimp only [a06];unfold a0X;rw [h2];dsimp only [a06];unfold a0X;dsimp only;rw [h]
theorem make3 (h1:e1 ρ=some (.ok s1)) (h2:e2 ρ=some (.ok s2)) (h3:e3 ρ=some (.ok s3)) (h:F (.obj c [] []) [s1.val,s2.val,s3.val]=some o):a49 c F [e1,e2,e3] ρ=some (.ok (.own o)):=by
 unfold a49 a0X;rw [h1];dsimp only [a06];unfold a0X;rw [h2];dsimp only [a06];unfold a0X;rw [h3];dsimp only [a06];unfold a0X;dsimp only;rw [h]
theorem b3M {tb:String->Option (List D->Option R)} {as:List ME} {G:List D->Option R} (ho:a ρ=some (.ok s)) (hv:s.val=.obj c ns ds) (hn:ns.contains m=false) (ht:tb c=some G):a3z m tb a as ρ=a0X as ρ fun vs=>G (.obj c ns ds::vs):=by
 unfold a3z;rw [ho];dsimp only [a06];rw [hv];dsimp only;rw [hn,if_neg Bool.false_ne_true,ht]
theorem meth0 {tb:String->Option (List D->Option R)} {G:List D->Option R} (ho:a ρ=some (.ok s)) (hv:s.val=.obj c ns ds) (hn:ns.contains m=false) (ht:tb c=some G) (h:G [.obj c ns ds]=q):a3z m tb a [] ρ=q:=by rw [b3M ho hv hn ht];exact h
theorem meth1 {tb:String->Option (List D->Option R)} {G:List D->Option R} (ho:a ρ=some (.ok s)) (hv:s.val=.obj c ns ds) (hn:ns.contains m=false) (ht:tb c=some G) (h1:e1 ρ=some (.ok s1)) (h:G [.obj c ns ds,s1.val]=q):a3z m tb a [e1] ρ=q:=by
 rw [b3M ho hv hn ht];exact a0W (F:=fun vs=>G (.obj c ns ds::vs)) h1 h
theorem meth3 {tb:String->Option (List D->Option R)} {G:List D->Option R} (ho:a ρ=some (.ok s)) (hv:s.val=.obj c ns ds) (hn:ns.contains m=false) (ht:tb c=some G) (h1:e1 ρ=some (.ok s1)) (h2:e2 ρ=some (.ok s2)) (h3:e3 ρ=some (.ok s3)) (h:G [.obj c ns ds,s1.val,s2.val,s3.val]=q):a3z m tb a [e1,e2,e3] ρ=q:=by
 rw [b3M ho hv hn ht];exact a1S (F:=fun vs=>G (.obj c ns ds::vs)) h1 h2 h3 h
theorem meth4 {tb:String->Option (List D->Option R)} {G:List D->Option R} (ho:a ρ=some (.ok s)) (hv:s.val=.obj c ns ds) (hn:ns.contains m=false) (ht:tb c=some G) (h1:e1 ρ=some (.ok s1)) (h2:e2 ρ=some (.ok s2)) (h3:e3 ρ=some (.ok s3)) (h4:e4 ρ=some (.ok s4)) (h:G [.obj c ns ds,s1.val,s2.val,s3.val,s4.val]=q):a3z m tb a [e1,e2,e3,e4] ρ=q:=by
 rw [b3M ho hv hn ht];exact a7e (F:=fun vs=>G (.obj c ns ds::vs)) h1 h2 h3 h4 h
theorem a5L {d:D} (h:a ρ=some (.ok s)) (hv:s.val=.obj c ns ds) (hc:cs.contains c=true) (hf:fldD f ns ds=some d):eUn (dFld cs f) a ρ=okD d:=by
 refine un_e h ?_
 rw [hv]
 show (if cs.contains c=true then (fldD f ns ds).bind okD else none)=_
 rw [if_pos hc,hf]
 rfl
theorem ifE_t (h:a ρ=okB true) (h2:e1 ρ=q):eIf a e1 e2 ρ=q:=by unfold eIf;rw [h];exact h2
theorem ifE_f (h:a ρ=okB false) (h2:e2 ρ=q):eIf a e1 e2 ρ=q:=by unfold eIf;rw [h];exact h2
theorem b5Z {i j:Nat} {k:Nat} (h1:e1 ρ=some (.ok s)) (h0:ρ[i]?=some (some (.own (.lst ds)))) (h2:e2 ρ=okI k) (hk:k<ds.length):a4c i e2 e1 ρ=some (.next (ρ.set i (some (.own (.lst (ds.set k s.val)))))):=by
 unfold a4c ownL;rw [h1];dsimp only [a4V];rw [h0];dsimp only;rw [h2];dsimp only [S.val]
 have:ixD ds.length (k:Int)=some k:=by unfold ixD;rw [if_pos (by omega),if_pos (by omega),toNat_natCast]
 rw [this]
theorem slice_to {x:Nat} (h:x<ds.length):a6G (.tup ds) none (some x)=okD (.tup (ds.take x)):=by
 show (if (sIxD ds.length 0 none=0/\sIxD ds.length ds.length (some (x:Int))=ds.length) then none else okD (.tup (cutD ds none (some (x:Int)))))=_
 have e:sIxD ds.length ds.length (some (x:Int))=x:=by
  show (if (x:Int)<0 then ((x:Int)+(ds.length:Int)).toNat else min (x:Int).toNat ds.length)=x
  rw [if_neg (by omega)];omega
 rw [if_neg (by rw [e];omega)]
 show okD (.tup ((ds.drop 0).take (sIxD ds.length ds.length (some (x:Int)) - 0)))=_
 rw [e];rfl
theorem b4k {x:Nat} (h0:0<x) (h:x<=ds.length):a6G (.tup ds) (some x) none=okD (.tup (ds.drop x)):=by
 have e:sIxD ds.length 0 (some (x:Int))=x:=by
  show (if (x:Int)<0 then ((x:Int)+(ds.length:Int)).toNat else min (x:Int).toNat ds.length)=x
  rw [if_neg (by omega)];omega
 show (if (sIxD ds.length 0 (some (x:Int))=0/\ds.length=ds.length) then none else okD (.tup (cutD ds (some (x:Int)) none)))=_
 rw [e,if_neg (by omega)]
 show okD (.tup ((ds.drop (sIxD ds.length 0 (some (x:Int)))).take (ds.length - sIxD ds.length 0 (some (x:Int)))))=_
 rw [e,List.take_of_length_le (by rw [length_drop];omega)]
theorem b5T {x:Nat} (h:a ρ=some (.ok s)) (hv:s.val=.tup ds) (hx:e1 ρ=okI x) (hl:x<ds.length):a3C a none (some e1) ρ=okD (.tup (ds.take x)):=by
 unfold a3C;rw [h];dsimp only [a06];rw [hv]
 show (a06 (e1 ρ) fun d=>match d with|.int i=>a6G (.tup ds) none (some i)|_=>none)=_
 rw [hx];exact slice_to hl
theorem b2B {x:Nat} (h:a ρ=some (.ok s)) (hv:s.val=.tup ds) (hx:e1 ρ=okI x) (h0:0<x) (hl:x<=ds.length):a3C a (some e1) none ρ=okD (.tup (ds.drop x)):=by
 unfold a3C;rw [h];dsimp only [a06];rw [hv]
 show (a06 (e1 ρ) fun d=>match d with|.int i=>a6G (.tup ds) (some i) none|_=>none)=_
 rw [hx];exact b4k h0 hl
theorem b7m {xs ys:List D} (h:xs.length+ys.length<=100000):dAdd (.tup xs) (.tup ys)=okD (.tup (xs++ys)):=by
 show (if xs.length+ys.length<=lim then okD (.tup (xs++ys)) else none)=_
 rw [if_pos (le_trans h (by decide))]
theorem a8N {xs ys:List D} (h:xs.length+ys.length<=100000):dAdd (.lst xs) (.lst ys)=okL (xs++ys):=by
 show (if xs.length+ys.length<=lim then okL (xs++ys) else none)=_
 rw [if_pos (le_trans h (by decide))]
theorem callB_e {G:List D->Option R} {as:List ME} {d:D} (h:a0X as ρ G=okD d) (hf:flat d=true):a0E G as ρ=okD d:=by
 unfold a0E;rw [h];show (if flat d=true then okD d else none)=_;rw [if_pos hf]
theorem a33 {x y:Str} (h:x=y):dEq (.str x) (.str y)=okB true:=by subst h;exact a8b x
theorem a0A {x y:Str} (h:x≠y):dEq (.str x) (.str y)=okB false:=by unfold dEq eqF;simp [h]
end
end L3
namespace Bell
open PySem L3
noncomputable section
def a9O (G:List D->Option R):MC:=(sRet (eAnd (eUn (dIsT "int") (eVar 0)) (eAnd (eNot (eUn (dIsT "bool") (eVar 0))) (eBin dEq (eVar 0) (eVar 1)))))
def a9P (G:List D->Option R):MC:=(sSeq (sIf (eUn (dIsT "str") (eVar 1)) (sRet (eAnd (eUn (dIsT "str") (eVar 0)) (eBin dEq (eVar 0) (eVar 1)))) a0Y) (a9O G))
def a9Q (G:List D->Option R):MC:=(sSeq (sIf (eUn dIsN (eVar 1)) (sRet (eUn dIsN (eVar 0))) a0Y) (a9P G))
def a52 (G:List D->Option R):MC:=
 (sSeq (sIf (eOr (eUn (dIsT "tuple") (eVar 1)) (eUn (dIsT "list") (eVar 1))) (sSeq (sIf (eAnd (eUn (dIsT "tuple") (eVar 1)) (eNot (eUn (dIsT "tuple") (eVar 0)))) (sRet (eC (.bl false))) a0Y) (sSeq (sIf (eAnd (eUn (dIsT "list") (eVar 1)) (eNot (eUn (dIsT "list") (eVar 0)))) (sRet (eC (.bl false))) a0Y) (sSeq (sIf (eBin dNe (a0E (f1 dLen) [(eAny 0)]) (a0E (f1 dLen) [(eAny 1)])) (sRet (eC (.bl false))) a0Y) (sRet (a0v (f1 dAll) [(a1R [2] (a05 (a0E (f1 dLen) [(eAny 1)])) (a1v 2) a22 (a0v G [(eBin dIx (eVar 0) (eVar 2)),(eBin dIx (eVar 1) (eVar 2))]))]))))) a0Y) (a9Q G))
def a4S:List D->Option R:=Nat.rec (motive:=fun _=>List D->Option R) (fun _=>none) (fun _ G=>fnD 2 3 (a52 G)) 8
def a6O:MC:=(sDem 1 (sSet 1 (eBin dAdd (eVar 1) (a0v (f1 b7i) [(eBin dIx (eVar 2) (eC (.int 1)))]))))
def a9M:MC:=(sDem 1 (sRet (eTup [(eTup [(eTup [(eC (.int 0)),(eC (.int 0)),(eC (.int 0)),(eTup [])])]),(a0v (f1 a40) [(eVar 1)])])))
def a9N:MC:=(sSeq (sFor (iSeq (eBin dIx (eVar 0) (eC (.int 0)))) (a1v 2) a6O) a9M)
def b25:MC:=
 (sSeq (sSet 1 (eLst [])) a9N)
def a4R:List D->Option R:=fnD 1 3 b25
def a6W:MC:=(sDem 1 (sRet (eTup [(a0v (f1 a40) [(eVar 1)]),(eVar 2)])))
def a6X:MC:=(sSeq (sIf (eBin dEq (eBin dIx (eVar 0) (eC (.int 0))) (eC (.str "back"))) (a4c 1 (eVar 3) (eBin dAdd (eBin dIx (eVar 2) (eBin dIx (eBin dIx (eVar 0) (eC (.int 2))) (eC (.int 0)))) (eBin dIx (eBin dIx (eVar 0) (eC (.int 2))) (eC (.int 1))))) a0Y) a6W)
def a6Y:MC:=(sSeq (sIf (eBin dEq (eBin dIx (eVar 0) (eC (.int 0))) (eC (.str "take"))) (sDem 1 (sSet 2 (eBin dAdd (eVar 2) (eTup [(eBin dIx (eVar 1) (eVar 3))])))) a0Y) a6X)
def a6Z:MC:=(sSeq (sIf (eBin dEq (eBin dIx (eVar 0) (eC (.int 0))) (eC (.str "move"))) (a4c 1 (eVar 3) (a0E (f2 dIx) [(eAny 1),(eBin dIx (eVar 0) (eC (.int 2)))])) a0Y) a6Y)
def a60:MC:=(sSeq (sIf (eBin dEq (eBin dIx (eVar 0) (eC (.int 0))) (eC (.str "tick"))) (a4c 1 (eVar 3) (eBin dAdd (a0E (f2 dIx) [(eAny 1),(eVar 3)]) (eC (.int 1)))) a0Y) a6Z)
def a61:MC:=(sSeq (sIf (eBin dEq (eBin dIx (eVar 0) (eC (.int 0))) (eC (.str "lay"))) (a4c 1 (eVar 3) (eBin dIx (eVar 0) (eC (.int 2)))) a0Y) a60)
def a62:MC:=(sSeq (sSet 3 (eBin dIx (eVar 0) (eC (.int 1)))) a61)
def a7Y:MC:=
 (sDem 1 (sSeq (sSet 1 (a0v (f1 b7i) [(eVar 1)])) a62))
def a2Z:List D->Option R:=fnD 3 4 a7Y
def a9G:MC:=(sRet (a1R [3] (a05 (a0E (f1 dLen) [(eBin dIx (eBin dIx (eVar 0) (eVar 1)) (eC (.int 1)))])) (a1v 3) a22 (eBin dAdd (eVar 2) (eVar 3))))
def b23:MC:=
 (sSeq (sSet 2 (a0v (f1 dSum) [(a1R [4] (a05 (eVar 1)) (a1v 4) a22 (a0E (f1 dLen) [(eBin dIx (eBin dIx (eVar 0) (eVar 4)) (eC (.int 1)))]))])) a9G)
def a2w:List D->Option R:=fnD 2 5 b23
def a9t:MC:=(sRet (eLst [(eTup [(eC (.str "rest")),(eC (.int 0)),(eC (.int 0))])]))
def a9u:MC:=(sSeq (sIf (eBin dEq (eBin dIx (eVar 1) (eC (.int 0))) (eC (.str "anew"))) (sSeq (sSet 5 (eBin dIx (a0v a2w [(eVar 0),(eBin dIx (eVar 1) (eC (.int 3)))]) (eC (.int 0)))) (sSeq (sSet 3 (eBin dAdd (eLst [(eTup [(eC (.str "take")),(eVar 5),(eC (.int 0))])]) (a1R [7] (iSeq (a0v a2w [(eVar 0),(eBin dIx (eVar 1) (eC (.int 2)))])) (a1v 7) a22 (eTup [(eC (.str "take")),(eVar 7),(eC (.int 0))])))) (sDem 3 (sDem 2 (sRet (eBin dAdd (eBin dAdd (eVar 3) (eLst [(eTup [(eC (.str "same")),(eVar 5),(eC (.int 0))])])) (a1R [6] (a05 (a0E (f1 dLen) [(eAny 2)])) (a1v 6) a22 (eTup [(eC (.str "back")),(eBin dIx (eVar 2) (eVar 6)),(eTup [(eBin dAdd (eVar 6) (eC (.int 1))),(eC (.int 0))])])))))))) a0Y) a9t)
def a9v:MC:=(sSeq (sIf (eBin dEq (eBin dIx (eVar 1) (eC (.int 0))) (eC (.str "copy"))) (sSeq (sSet 4 (a0v a2w [(eVar 0),(eBin dIx (eVar 1) (eC (.int 2)))])) (sDem 4 (sDem 2 (sRet (a1R [6] (a05 (a0E (f1 dLen) [(eAny 2)])) (a1v 6) a22 (eTup [(eC (.str "move")),(eBin dIx (eVar 2) (eVar 6)),(eBin dIx (eVar 4) (eVar 6))])))))) a0Y) a9u)
def a9w:MC:=(sSeq (sIf (eBin dEq (eBin dIx (eVar 1) (eC (.int 0))) (eC (.str "grow"))) (sDem 2 (sSeq (sSet 3 (a1R [7] (iSeq (eVar 2)) (a1v 7) a22 (eTup [(eC (.str "take")),(eVar 7),(eC (.int 0))]))) (sDem 3 (sDem 2 (sRet (eBin dAdd (eVar 3) (a1R [6] (a05 (a0E (f1 dLen) [(eAny 2)])) (a1v 6) a22 (eTup [(eC (.str "back")),(eBin dIx (eVar 2) (eVar 6)),(eTup [(eVar 6),(eBin dIx (eVar 1) (eC (.int 2)))])])))))))) a0Y) a9v)
def a9x:MC:=(sSeq (sIf (eBin dEq (eBin dIx (eVar 1) (eC (.int 0))) (eC (.str "tick"))) (sDem 2 (sRet (eLst [(eTup [(eC (.str "tick")),(eBin dIx (eVar 2) (eC (.int 0))),(eC (.int 0))])]))) a0Y) a9w)
def a9y:MC:=(sSeq (sIf (eBin dEq (eBin dIx (eVar 1) (eC (.int 0))) (eC (.str "put"))) (sDem 2 (sRet (a1R [6] (a05 (a0E (f1 dLen) [(eAny 2)])) (a1v 6) a22 (eTup [(eC (.str "lay")),(eBin dIx (eVar 2) (eVar 6)),(eBin dIx (eBin dIx (eVar 1) (eC (.int 2))) (eVar 6))])))) a0Y) a9x)
def a9z:MC:=(sSeq (sSet 2 (a0v a2w [(eVar 0),(eBin dIx (eVar 1) (eC (.int 1)))])) a9y)
def b21:MC:=
 (sSeq (sIf (eBin dEq (eBin dIx (eVar 1) (eC (.int 0))) (eC (.str "still"))) (sRet (a1R [6] (a05 (eBin dIx (eVar 1) (eC (.int 1)))) (a1v 6) a22 (eTup [(eC (.str "rest")),(eC (.int 0)),(eC (.int 0))]))) a0Y) a9z)
def a4P:List D->Option R:=fnD 2 8 b21
def a7H:MC:=(sRet (eTup [(eBin dAdd (eVar 3) (eTup [(eTup [(eBin dIx (eVar 2) (eC (.int 0))),(eBin dAdd (eBin dIx (eVar 2) (eC (.int 1))) (eC (.int 1))),(eC (.int 0)),(eTup [])])])),(eBin dIx (eVar 7) (eC (.int 0)))]))
def a8o:MC:=(sSeq (sIf (eAnd (eBin dGt (eBin dIx (eVar 2) (eC (.int 0))) (eC (.int 0))) (eBin dEq (eBin dAdd (eBin dIx (eVar 2) (eC (.int 1))) (eC (.int 1))) (a0E (f1 dLen) [(eAny 4)]))) (sRet (eTup [(eVar 3),(eBin dIx (eVar 7) (eC (.int 0)))])) a0Y) a7H)
def a5M:MC:=(sSeq (sIf (eBin dLt (eBin dAdd (eBin dIx (eVar 2) (eC (.int 2))) (eC (.int 1))) (a0E (f1 dLen) [(eAny 5)])) (sRet (eTup [(eBin dAdd (eVar 3) (eTup [(eTup [(eBin dIx (eVar 2) (eC (.int 0))),(eBin dIx (eVar 2) (eC (.int 1))),(eBin dAdd (eBin dIx (eVar 2) (eC (.int 2))) (eC (.int 1))),(eBin dIx (eVar 7) (eC (.int 1)))])])),(eBin dIx (eVar 7) (eC (.int 0)))])) a0Y) a8o)
def a5N:MC:=(sSeq (sIf (eAnd (eBin dEq (eBin dIx (eVar 6) (eC (.int 0))) (eC (.str "same"))) (eBin dNe (eBin dIx (eBin dIx (eVar 1) (eC (.int 1))) (eBin dIx (eVar 6) (eC (.int 1)))) (eBin dIx (eBin dIx (eVar 2) (eC (.int 3))) (eC (.int 0))))) (sRet (eTup [(eBin dAdd (eVar 3) (eTup [(eTup [(eBin dIx (eVar 2) (eC (.int 0))),(eBin dIx (eVar 2) (eC (.int 1))),(eC (.int 0)),(eTup [])])])),(eBin dIx (eVar 7) (eC (.int 0)))])) a0Y) a5M)
def a8p:MC:=(sSeq (sSet 7 (a0v a2Z [(eVar 6),(eBin dIx (eVar 1) (eC (.int 1))),(eBin dIx (eVar 2) (eC (.int 3)))])) a5N)
def a8q:MC:=(sDem 5 (sSeq (sSet 6 (eBin dIx (eVar 5) (eBin dIx (eVar 2) (eC (.int 2))))) a8p))
def a8r:MC:=(sSeq (sSet 5 (a0v a4P [(eBin dIx (eVar 0) (eC (.int 0))),(eBin dIx (eBin dIx (eVar 4) (eBin dIx (eVar 2) (eC (.int 1)))) (eC (.int 0)))])) a8q)
def a8s:MC:=(sSeq (sIf (eBin dEq (eBin dIx (eVar 2) (eC (.int 1))) (a0E (f1 dLen) [(eAny 4)])) (sRet (eC .non)) a0Y) a8r)
def a8t:MC:=(sSeq (sSet 4 (eBin dIx (eBin dIx (eBin dIx (eVar 0) (eC (.int 1))) (eBin dIx (eVar 2) (eC (.int 0)))) (eC (.int 2)))) a8s)
def a8u:MC:=(sSeq (sSet 3 (a3C (eBin dIx (eVar 1) (eC (.int 0))) none (some (eC (.int (-1)))))) a8t)
def b1L:MC:=
 (sSeq (sSet 2 (eBin dIx (eBin dIx (eVar 1) (eC (.int 0))) (eC (.int (-1))))) a8u)
def a16:List D->Option R:=fnD 2 8 b1L
def a6b:MC:=(sRet (eBin dMod (eBin dMul (eVar 3) (eVar 3)) (eC (.int 65519))))
def a4E:MC:=(sSeq (sSet 3 (eBin dMod (eBin dAdd (eBin dAdd (eBin dMul (eBin dMod (eVar 2) (eC (.int 1000003))) (eC (.int 48271))) (eBin dMul (eBin dMul (eVar 1) (eVar 1)) (eC (.int 7919)))) (eC (.int 1))) (eC (.int 65521)))) a6b)
def a9A:MC:=(sSeq (sIf (eBin dGt (a0E (f1 dLen) [(eAny 0)]) (eC (.int 0))) (sSet 2 (eBin dIx (eVar 0) (eBin dMod (eVar 1) (a0E (f1 dLen) [(eAny 0)])))) a0Y) a4E)
def b22:MC:=
 (sSeq (sSet 2 (eC (.int 0))) a9A)
def a0y:List D->Option R:=fnD 2 4 b22
def a2n:MC:=(sRet (eBin dSub (eBin dMod (eBin dAdd (eBin dMul (eVar 2) (eC (.int 65519))) (eVar 3)) (eC (.int 2000000001))) (eC (.int 1000000000))))
def a2o:MC:=(sSeq (sIf (eBin dEq (eBin dMod (eVar 2) (eC (.int 17))) (eC (.int 1))) (sRet (eBin dIx (eLst [(eBin dPow (eC (.int 10)) (eC (.int 9))),(eUn dNeg (eBin dPow (eC (.int 10)) (eC (.int 9))))]) (eBin dMod (eVar 3) (eC (.int 2))))) a0Y) a2n)
def a2p:MC:=(sSeq (sIf (eBin dEq (eBin dMod (eVar 2) (eC (.int 3))) (eC (.int 0))) (sRet (eBin dSub (eBin dMod (eVar 3) (eC (.int 5))) (eC (.int 2)))) a0Y) a2o)
def a2q:MC:=(sSeq (sSet 3 (a0v a0y [(eVar 0),(eBin dAdd (eVar 1) (eC (.int 1)))])) a2p)
def a3y:MC:=
 (sSeq (sSet 2 (a0v a0y [(eVar 0),(eVar 1)])) a2q)
def a0Q:List D->Option R:=fnD 2 4 a3y
def a5o:MC:=(sDem 6 (a5d 3 (eTup [(eBin dIx (eC (.str "abcdefgh")) (eVar 4)),(a0v (f1 a40) [(eVar 6)])])))
def a8i:MC:=(sSeq (sIf (eOr (eAnd (eBin dEq (eVar 1) (eC (.int 2))) (eBin dGt (eVar 7) (eBin dIx (eLst [(eC (.int 0)),(eC (.int 0)),(eC (.int 2))]) (eBin dMod (eVar 4) (eC (.int 3)))))) (eAnd (eBin dEq (eVar 1) (eC (.int 1))) (eBin dEq (eVar 7) (eC (.int 0))))) (a5d 6 (a0v a0Q [(eVar 0),(eBin dAdd (eVar 5) (eC (.int 3)))])) a0Y) a5o)
def a8j:MC:=(sSeq (sSet 7 (eBin dMod (a0v a0y [(eVar 0),(eBin dAdd (eVar 5) (eC (.int 2)))]) (eC (.int 5)))) a8i)
def a8k:MC:=(sSeq (sSet 6 (eLst [(a0v a0Q [(eVar 0),(eVar 5)])])) a8j)
def a4W:MC:=(sSeq (sSet 5 (eBin dAdd (eBin dAdd (eC (.int 4)) (eBin dMul (eC (.int 5)) (eVar 4))) (eBin dMul (eC (.int 400)) (eBin a7t (eVar 4) (eC (.int 3)))))) a8k)
def a9H:MC:=(sDem 3 (sRet (a0v (f1 a40) [(eVar 3)])))
def a9I:MC:=(sSeq (sFor (a05 (eVar 2)) (a1v 4) a4W) a9H)
def a9J:MC:=(sSeq (sSet 3 (eLst [])) a9I)
def a9K:MC:=(sSeq (sSet 2 (eBin dIx (eLst [(eBin dMod (eBin a7t (eVar 2) (eC (.int 16))) (eC (.int 4))),(eBin dAdd (eC (.int 4)) (eBin dMod (eBin a7t (eVar 2) (eC (.int 16))) (eC (.int 5))))]) (a0v (f1 dInt) [(eBin dEq (eBin dMod (eVar 2) (eC (.int 8))) (eC (.int 0)))]))) a9J)
def a9L:MC:=(sSeq (sSet 2 (a0v a0y [(eVar 0),(eC (.int 2))])) a9K)
def b24:MC:=
 (sSeq (sSet 1 (eBin dAdd (eC (.int 1)) (eBin dMod (a0v a0y [(eVar 0),(eC (.int 3))]) (eC (.int 2))))) a9L)
def a4Q:List D->Option R:=fnD 1 8 b24
def a9B:MC:=(sRet (eTup [(eC (.str "put")),(eVar 7),(eTup [(eVar 6),(a0v a0Q [(eVar 0),(eBin dAdd (eVar 1) (eC (.int 5)))])])]))
def a6c:MC:=(sSeq (sIf (eBin dEq (eVar 8) (eC (.int 1))) (sRet (eTup [(eC (.str "put")),(eVar 7),(eTup [(eVar 6)])])) a0Y) a9B)
def a9C:MC:=(sSeq (sIf (eAnd (eBin dEq (eVar 4) (eC (.int 8))) (eAnd (eBin dNe (eVar 10) (eVar 7)) (eBin dGt (a0E (f1 dLen) [(eAny 11)]) (eC (.int 0))))) (sDem 11 (sRet (eTup [(eC (.str "anew")),(eVar 7),(eVar 10),(eBin dIx (eVar 11) (eBin dMod (eBin a7t (eVar 5) (eC (.int 5))) (a0E (f1 dLen) [(eAny 11)])))]))) a0Y) a6c)
def a6d:MC:=(sSeq (sSet 11 (a1R [14] (a05 (a0E (f1 dLen) [(eAny 2)])) (a1v 14) (eAnd (eBin dNe (eVar 14) (eVar 7)) (eAnd (eBin dNe (eVar 14) (eVar 10)) (eBin dEq (a0E (f1 dLen) [(eBin dIx (eBin dIx (eVar 2) (eVar 14)) (eC (.int 1)))]) (eC (.int 1))))) (eVar 14))) a9C)
def a9D:MC:=(sSeq (sIf (eOr (eBin dEq (eVar 4) (eC (.int 7))) (eBin dEq (eVar 4) (eC (.int 10)))) (sRet (eTup [(eC (.str "none")),(eVar 7)])) a0Y) a6d)
def a9E:MC:=(sSeq (sIf (eBin dEq (eVar 4) (eC (.int 3))) (sRet (eTup [(eC (.str "tick")),(eVar 7)])) a0Y) a9D)
def a9F:MC:=(sSeq (sIf (eOr (eBin dEq (eVar 4) (eC (.int 2))) (eAnd (eBin dEq (eVar 4) (eC (.int 3))) (eBin dEq (eVar 8) (eC (.int 2))))) (sRet (eTup [(eC (.str "grow")),(eVar 7),(eVar 6)])) a0Y) a9E)
def b0L:MC:=(sSeq (sIf (eAnd (eBin dEq (eVar 4) (eC (.int 1))) (eBin dNe (eVar 10) (eVar 7))) (sRet (eTup [(eC (.str "copy")),(eVar 7),(eVar 10)])) a0Y) a9F)
def a5b:MC:=(sSeq (sIf (eOr (eBin dEq (eVar 4) (eC (.int 5))) (eBin dEq (eVar 4) (eC (.int 6)))) (sSeq (sSet 12 (eBin dSub (eBin dIx (eBin dIx (eBin dIx (eVar 2) (eVar 7)) (eC (.int 1))) (eC (.int 0))) (eBin dIx (eBin dIx (eBin dIx (eVar 2) (eVar 10)) (eC (.int 1))) (eC (.int 0))))) (sSeq (sIf (eAnd (eBin dGt (eBin dMod (eBin a7t (eVar 5) (eC (.int 7))) (eC (.int 3))) (eC (.int 0))) (eBin dLe (a0v (f1 dAbs) [(eVar 12)]) (eBin dPow (eC (.int 10)) (eC (.int 9))))) (sSet 6 (eVar 12)) a0Y) (sRet (eTup [(eBin dIx (eLst [(eC (.str "is")),(eC (.str "most"))]) (eBin dSub (eVar 4) (eC (.int 5)))),(eVar 7),(eVar 10),(eVar 6)])))) a0Y) b0L)
def b0M:MC:=(sDem 9 (sSeq (sSet 10 (eBin dIx (eBin dAdd (eVar 9) (eLst [(eVar 7)])) (eBin dMod (a0v a0y [(eVar 0),(eBin dAdd (eVar 1) (eC (.int 4)))]) (eBin dAdd (a0E (f1 dLen) [(eAny 9)]) (eC (.int 1)))))) a5b))
def b0N:MC:=(sSeq (sSet 9 (a1R [13] (a05 (a0E (f1 dLen) [(eAny 2)])) (a1v 13) (eAnd (eBin dNe (eVar 13) (eVar 7)) (eBin dEq (a0E (f1 dLen) [(eBin dIx (eBin dIx (eVar 2) (eVar 13)) (eC (.int 1)))]) (eVar 8))) (eVar 13))) b0M)
def b0O:MC:=(sSeq (sSet 8 (a0E (f1 dLen) [(eBin dIx (eBin dIx (eVar 2) (eVar 7)) (eC (.int 1)))])) b0N)
def b0P:MC:=(sSeq (sSet 7 (eBin dMod (eVar 5) (a0E (f1 dLen) [(eAny 2)]))) b0O)
def b0Q:MC:=(sSeq (sIf (eOr (eBin dEq (a0E (f1 dLen) [(eAny 2)]) (eC (.int 0))) (eBin dEq (eVar 4) (eC (.int 4)))) (sRet (eTup [(eC (.str "still")),(eBin dAdd (eC (.int 1)) (eBin dMod (eVar 5) (eVar 3)))])) a0Y) b0P)
def b0R:MC:=(sSeq (sSet 6 (a0v a0Q [(eVar 0),(eBin dAdd (eVar 1) (eC (.int 2)))])) b0Q)
def b0S:MC:=(sSeq (sSet 5 (a0v a0y [(eVar 0),(eBin dAdd (eVar 1) (eC (.int 1)))])) b0R)
def b4U:MC:=
 (sSeq (sSet 4 (eBin dMod (a0v a0y [(eVar 0),(eVar 1)]) (eC (.int 11)))) b0S)
def a4D:List D->Option R:=fnD 4 15 b4U
def a6N:MC:=(a5d 6 (eTup [(a0v a4D [(eVar 0),(eVar 8),(eVar 2),(eVar 5)]),(eVar 9)]))
def b0D:MC:=(sSeq (sIf (eBin dEq (eBin dMod (eVar 10) (eC (.int 2))) (eC (.int 1))) (sSet 9 (eBin dMul (eC (.int 2)) (eBin dMod (eBin a7t (eVar 10) (eC (.int 2))) (eBin dShl (eC (.int 1)) (eVar 3))))) a0Y) a6N)
def b0E:MC:=(sSeq (sSet 10 (a0v a0y [(eVar 0),(eBin dAdd (eVar 8) (eC (.int 7)))])) b0D)
def b0F:MC:=(sSeq (sSet 9 (eC (.int 0))) b0E)
def a8h:MC:=(sSeq (sSet 8 (eBin dAdd (eBin dAdd (eVar 1) (eC (.int 3))) (eBin dMul (eC (.int 8)) (eVar 7)))) b0F)
def b2p:MC:=(sDem 6 (sRet (a0v (f1 a40) [(eVar 6)])))
def b2q:MC:=(sSeq (sFor (a05 (eBin dAdd (eC (.int 1)) (eBin dMod (a0v a0y [(eVar 0),(eVar 1)]) (eVar 4)))) (a1v 7) a8h) b2p)
def b6N:MC:=
 (sSeq (sSet 6 (eLst [])) b2q)
def a5l:List D->Option R:=fnD 6 11 b6N
def a7f:MC:=(a5d 5 (eTup [(eBin dIx (eC (.str "pqrstu")) (eVar 6)),(eVar 8),(a0v a5l [(eVar 0),(eVar 7),(eVar 4),(eVar 1),(eVar 2),(eVar 3)])]))
def a7g:MC:=(sSeq (sSet 8 (eBin dAdd (eC (.int 1)) (eBin dMod (a0v a0y [(eVar 0),(eBin dAdd (eVar 7) (eC (.int 1)))]) (eBin dIx (eLst [(eC (.int 3)),(eC (.int 9))]) (eBin dMod (a0v a0y [(eVar 0),(eBin dAdd (eVar 7) (eC (.int 2)))]) (eC (.int 2))))))) a7f)
def a5n:MC:=(sSeq (sSet 7 (eBin dAdd (eC (.int 20)) (eBin dMul (eBin dAdd (eC (.int 3)) (eBin dMul (eC (.int 8)) (eVar 2))) (eBin dAdd (eVar 6) (eC (.int 1)))))) a7g)
def a7E:MC:=(sDem 5 (sRet (eTup [(eVar 4),(a0v (f1 a40) [(eVar 5)])])))
def a7F:MC:=(sSeq (sFor (a05 (eVar 1)) (a1v 6) a5n) a7E)
def a7G:MC:=(sSeq (sSet 5 (eLst [(eTup [(eC (.str "main")),(eC (.int 0)),(a0v a5l [(eVar 0),(eC (.int 20)),(eVar 4),(eVar 1),(eVar 2),(eVar 3)])])])) a7F)
def b0i:MC:=
 (sSeq (sSet 4 (a0v a4Q [(eVar 0)])) a7G)
def a3G:List D->Option R:=fnD 4 9 b0i
def b20:MC:=
 (sRet (eBin dIx (eBin dIx (eBin dIx (eVar 0) (eC (.int 1))) (eVar 1)) (eC (.int 2))))
def a3m:List D->Option R:=fnD 2 2 b20
def b6P:MC:=
 (sRet (eBin dIx (eBin dIx (a0v a3m [(eVar 0),(eVar 1)]) (eVar 2)) (eC (.int 0))))
def a6D:List D->Option R:=fnD 3 3 b6P
def b6M:MC:=
 (sRet (a0E (f1 dLen) [(eBin dIx (eBin dIx (eVar 0) (eVar 1)) (eC (.int 1)))]))
def a4C:List D->Option R:=fnD 2 2 b6M
def b0U:MC:=(sRet (eBin a6H (eVar 2) (eBin dAdd (eVar 2) (a0v a4C [(eVar 0),(eVar 1)]))))
def b4V:MC:=
 (sSeq (sSet 2 (a0v (f1 dSum) [(a1R [3] (a05 (eVar 1)) (a1v 3) a22 (a0v a4C [(eVar 0),(eVar 3)]))])) b0U)
def a3P:List D->Option R:=fnD 2 4 b4V
def g_i_Deed:MG:=
 (a4N (a8L ["Deed","Promise","Comparing","Untouched","Still","Put","Copy","Tick","Handed","Grow","Anew"] "plan" (eVar 1)) a7r)
def a4e:a4Y:=fnI 2 2 g_i_Deed
def b47:MG:=
 (a4N (a5K a4e [(eBin dAdd (a1R [3] (iSeq (eVar 1)) (a1v 3) a22 (eTup [(eTup [(eVar 3)]),(eTup [])])) (a1R [3] (iSeq (eVar 2)) (a1v 3) a22 (eTup [(eTup []),(eTup [(eVar 3)])])))]) a7r)
def a5C:a4Y:=fnI 3 4 b47
def g_i_Anew:MG:=
 (a4N (a5K a5C [(eBin dAdd (eBin dAdd (eLst [(eVar 3)]) (eVar 2)) (eLst [(eVar 3)])),(eVar 1)]) (a4N (a8L ["Anew"] "check" (eBin dAdd (a0E (f1 dLen) [(eAny 2)]) (eC (.int 1)))) a7r))
def b63:a4Y:=fnI 4 4 g_i_Anew
def b29:MG:=
 (a4N (a5K a4e [(eLst [(eTup [(a0v (f1 a40) [(eVar 1)]),(eTup [])])])]) a7r)
def a4B:a4Y:=fnI 2 2 b29
def b0q:MG:=
 (a4N (a5K a4B [(eUn b0v (eBin dAdd (eVar 1) (eVar 2)))]) a7r)
def a56:a4Y:=fnI 3 3 b0q
def g_i_Copy:MG:=
 (a4N (a5K a4e [(a1R [3] (a05 (a0E (f1 dLen) [(eAny 1)])) (a1v 3) a22 (eTup [(eTup [(eBin dIx (eVar 2) (eVar 3))]),(eTup [(eBin dIx (eVar 1) (eVar 3))])]))]) a7r)
def b62:a4Y:=fnI 3 4 g_i_Copy
def g_i_Grow:MG:=
 (a4N (a5K a5C [(eVar 1),(eVar 1)]) (a4N (a8L ["Grow"] "size" (a0E (f1 dLen) [(eAny 1)])) (a4N (a8L ["Grow"] "number" (eVar 2)) a7r)))
def b61:a4Y:=fnI 3 3 g_i_Grow
def g_i_Put:MG:=
 (a4N (a5K a4e [(a1R [3] (iSeq (eVar 1)) (a1v 3) a22 (eTup [(eTup []),(eTup [(eVar 3)])]))]) (a4N (a8L ["Put"] "numbers" (a0v (f1 a40) [(eVar 2)])) a7r))
def i_Put:a4Y:=fnI 3 4 g_i_Put
def b68:MG:=
 (a4N (a5K a4e [(eRep (eLst [(eTup [(eTup []),(eTup [])])]) (eVar 1))]) a7r)
def b28:a4Y:=fnI 2 2 b68
def g_i_Tick:MG:=
 (a4N (a5K a4e [(eLst [(eTup [(eTup [(eVar 1)]),(eTup [(eVar 1)])])])]) a7r)
def b60:a4Y:=fnI 2 2 g_i_Tick
def b0p:MG:=
 (a4N (a5K a4B [(eLst [])]) a7r)
def a54:a4Y:=fnI 1 1 b0p
def b0T:MC:=(sDem 4 (sDem 3 (sRet (a49 "Comparing" a56 [(eVar 3),(eVar 4)]))))
def b2r:MC:=(sSeq (sIf (eBin dEq (eVar 2) (eC (.str "anew"))) (sDem 4 (sDem 3 (sRet (a49 "Anew" b63 [(eVar 3),(eVar 4),(eBin dIx (a0v a3P [(eVar 0),(eBin dIx (eVar 1) (eC (.int 3)))]) (eC (.int 0)))])))) a0Y) b0T)
def b2s:MC:=(sSeq (sIf (eBin dEq (eVar 2) (eC (.str "copy"))) (sDem 4 (sDem 3 (sRet (a49 "Copy" b62 [(eVar 3),(eVar 4)])))) a0Y) b2r)
def b2t:MC:=(sSeq (sSet 4 (a0v a3P [(eVar 0),(eBin dIx (eVar 1) (eC (.int 2)))])) b2s)
def b2u:MC:=(sSeq (sIf (eBin dEq (eVar 2) (eC (.str "tick"))) (sDem 3 (sRet (a49 "Tick" b60 [(eBin dIx (eVar 3) (eC (.int 0)))]))) a0Y) b2t)
def b2v:MC:=(sSeq (sIf (eBin dEq (eVar 2) (eC (.str "grow"))) (sDem 3 (sRet (a49 "Grow" b61 [(eVar 3),(eBin dIx (eVar 1) (eC (.int 2)))]))) a0Y) b2u)
def b2w:MC:=(sSeq (sIf (eBin dEq (eVar 2) (eC (.str "put"))) (sDem 3 (sRet (a49 "Put" i_Put [(eVar 3),(eBin dIx (eVar 1) (eC (.int 2)))]))) a0Y) b2v)
def b2x:MC:=(sSeq (sSet 3 (a0v a3P [(eVar 0),(eBin dIx (eVar 1) (eC (.int 1)))])) b2w)
def b2y:MC:=(sSeq (sIf (eBin dEq (eVar 2) (eC (.str "none"))) (sRet (a49 "Untouched" a54 [])) a0Y) b2x)
def b2z:MC:=(sSeq (sIf (eBin dEq (eVar 2) (eC (.str "still"))) (sRet (a49 "Still" b28 [(eBin dIx (eVar 1) (eC (.int 1)))])) a0Y) b2y)
def b6O:MC:=
 (sSeq (sSet 2 (eBin dIx (eVar 1) (eC (.int 0)))) b2z)
def a6C:List D->Option R:=fnD 2 5 b6O
def b26:MC:=
 (sRet (eBin dEq (eBin dIx (eVar 1) (eC (.int 1))) (a0E (f1 dLen) [(a0v a3m [(eVar 0),(eBin dIx (eVar 1) (eC (.int 0)))])])))
def a17:List D->Option R:=fnD 2 2 b26
def b1P:MC:=
 (sRet (a0v (f1 b7i) [(eBin dIx (eBin dIx (eUn (dFld ["Deed","Promise","Comparing","Untouched","Still","Put","Copy","Tick","Handed","Grow","Anew"] "plan") (eVar 0)) (eVar 1)) (eC (.int 0)))]))
def a18:List D->Option R:=fnD 2 2 b1P
def a3D:String->Option (List D->Option R):=(tbG ["Deed","Promise","Comparing","Untouched","Still","Put","Copy","Tick","Handed","Grow","Anew"] a18 b2o)
def b0j:MC:=
 (sRet (eTup [(eVar 2),(eBin dAdd (eVar 3) (eTup [(eBin dIx (eVar 2) (eBin dIx (a3z "reads" a3D (eVar 0) [(eVar 1)]) (eC (.int 0))))])),(eBin dAdd (eVar 1) (eC (.int 1)))]))
def a2g:List D->Option R:=fnD 4 4 b0j
def b6L:MC:=
 (sRet (eBin dAdd (eBin dAdd (a3C (eVar 0) none (some (eVar 1))) (eTup [(eVar 2)])) (a3C (eVar 0) (some (eBin dAdd (eVar 1) (eC (.int 1)))) none)))
def a2r:List D->Option R:=fnD 3 3 b6L
def b1O:MC:=
 (sRet (a0E (f1 dLen) [(eUn (dFld ["Deed","Promise","Comparing","Untouched","Still","Put","Copy","Tick","Handed","Grow","Anew"] "plan") (eVar 0))]))
def a2L:List D->Option R:=fnD 1 1 b1O
def b0k:MC:=
 (sRet (a0v (f1 b7i) [(eBin dIx (eBin dIx (eUn (dFld ["Deed","Promise","Comparing","Untouched","Still","Put","Copy","Tick","Handed","Grow","Anew"] "plan") (eVar 0)) (eVar 1)) (eC (.int 1)))]))
def a1s:List D->Option R:=fnD 2 2 b0k
def a37:String->Option (List D->Option R):=(tbG ["Deed","Promise","Comparing","Untouched","Still","Put","Copy","Tick","Handed","Grow","Anew"] a2L b2o)
def a1T:String->Option (List D->Option R):=(tbG ["Deed","Promise","Comparing","Untouched","Still","Put","Copy","Tick","Handed","Grow","Anew"] a1s b2o)
def a5T:MC:=(sRet (eTup [(a0v a2r [(eVar 2),(eBin dIx (a3z "writes" a1T (eVar 0) [(eVar 1)]) (eC (.int 0))),(eVar 4)]),(eVar 6),(eVar 5)]))
def a5U:MC:=(sSeq (sSet 6 (eIf (eBin dEq (eVar 5) (a3z "turns" a37 (eVar 0) [])) (eTup []) (eVar 3))) a5T)
def a7b:MC:=
 (sSeq (sSet 5 (eBin dAdd (eVar 1) (eC (.int 1)))) a5U)
def a1f:List D->Option R:=fnD 5 7 a7b
def a6V:String->Option (List D->Option R):=(tbG ["Handed","Grow","Anew"] a2g b2o)
def a24:String->Option (List D->Option R):=(tbG ["Handed","Grow","Anew"] a1f b2o)
def a8y:MC:=(sRet (eTup [(eVar 2),(eTup []),(eC (.int 0))]))
def a8z:MC:=(sSeq (sIf (eBin dEq (eBin dIx (eVar 2) (eBin dIx (a3z "reads" a3D (eVar 0) [(eVar 1)]) (eC (.int 0)))) (eBin dIx (eVar 3) (eC (.int 0)))) (sRet (eTup [(eVar 2),(eVar 3),(eBin dAdd (eVar 1) (eC (.int 1)))])) a0Y) a8y)
def a8A:MC:=(sSeq (sIf (eBin dGt (eVar 1) (eUn (dFld ["Anew"] "check") (eVar 0))) (sRet (a3z "set_down" a24 (eVar 0) [(eVar 1),(eVar 2),(eVar 3),(eBin dIx (eVar 3) (eBin dSub (eVar 1) (eUn (dFld ["Anew"] "check") (eVar 0))))])) a0Y) a8z)
def b1S:MC:=
 (sSeq (sIf (eBin dLt (eVar 1) (eUn (dFld ["Anew"] "check") (eVar 0))) (sRet (a3z "laid" a6V (eVar 0) [(eVar 1),(eVar 2),(eVar 3)])) a0Y) a8A)
def a4j:List D->Option R:=fnD 4 4 b1S
def a8x:MC:=(sRet (eTup [(a0v a2r [(eVar 2),(eBin dIx (a3z "writes" a1T (eVar 0) [(eVar 1)]) (eC (.int 0))),(eVar 4)]),(eVar 3),(eBin dAdd (eVar 1) (eC (.int 1)))]))
def b1R:MC:=
 (sSeq (sSet 4 (eBin dIx (eVar 2) (eBin dIx (a3z "reads" a3D (eVar 0) [(eVar 1)]) (eC (.int 0))))) a8x)
def a4i:List D->Option R:=fnD 4 5 b1R
def b1Q:MC:=
 (sRet (eTup [(eVar 2),(eVar 3),(eBin dAdd (eVar 1) (eC (.int 1)))]))
def a19:List D->Option R:=fnD 4 4 b1Q
def a8w:MC:=(sRet (a3z "set_down" a24 (eVar 0) [(eVar 1),(eVar 2),(eVar 3),(eBin dAdd (eBin dIx (eVar 3) (eBin dSub (eVar 1) (eUn (dFld ["Grow"] "size") (eVar 0)))) (eUn (dFld ["Grow"] "number") (eVar 0)))]))
def b1N:MC:=
 (sSeq (sIf (eBin dLt (eVar 1) (eUn (dFld ["Grow"] "size") (eVar 0))) (sRet (a3z "laid" a6V (eVar 0) [(eVar 1),(eVar 2),(eVar 3)])) a0Y) a8w)
def a4h:List D->Option R:=fnD 4 4 b1N
def b27:MC:=
 (sRet (eTup [(a0v a2r [(eVar 2),(eBin dIx (a3z "writes" a1T (eVar 0) [(eVar 1)]) (eC (.int 0))),(eBin dIx (eUn (dFld ["Put"] "numbers") (eVar 0)) (eVar 1))]),(eVar 3),(eBin dAdd (eVar 1) (eC (.int 1)))]))
def a4T:List D->Option R:=fnD 4 4 b27
def a8v:MC:=(sRet (eTup [(a0v a2r [(eVar 2),(eVar 4),(eBin dAdd (eBin dIx (eVar 2) (eVar 4)) (eC (.int 1)))]),(eVar 3),(eBin dAdd (eVar 1) (eC (.int 1)))]))
def b1M:MC:=
 (sSeq (sSet 4 (eBin dIx (a3z "writes" a1T (eVar 0) [(eVar 1)]) (eC (.int 0)))) a8v)
def a4g:List D->Option R:=fnD 4 5 b1M
def a2N:String->Option (List D->Option R):=(tbG ["Deed","Promise","Comparing","Untouched","Still","Handed"] a19 (tbG ["Put"] a4T (tbG ["Copy"] a4i (tbG ["Tick"] a4g (tbG ["Grow"] a4h (tbG ["Anew"] a4j b2o))))))
theorem a38:a2N "Comparing" = some a19:=rfl
theorem a59:a2N "Untouched" = some a19:=rfl
theorem a8n:a2N "Still" = some a19:=rfl
theorem b0K:a2N "Put" = some a4T:=rfl
theorem a9p:a2N "Copy" = some a4i:=rfl
theorem a9o:a2N "Tick" = some a4g:=rfl
theorem a6a:a2N "Grow" = some a4h:=rfl
theorem a9q:a2N "Anew" = some a4j:=rfl
def b4d:MC:=(sRet (eTup [(eBin dAdd (a3C (eVar 1) none (some (eC (.int (-1))))) (eTup [(eVar 6)])),(eBin dIx (eVar 5) (eC (.int 0)))]))
def b4e:MC:=(sSeq (sIf (eAnd (eBin dGt (eBin dIx (eVar 6) (eC (.int 0))) (eC (.int 0))) (a0v a17 [(eVar 0),(eVar 6)])) (sRet (eTup [(a3C (eVar 1) none (some (eC (.int (-1))))),(eBin dIx (eVar 5) (eC (.int 0)))])) a0Y) b4d)
def b4f:MC:=(sDem 4 (sSeq (sIf (eBin dLt (eBin dIx (eVar 5) (eC (.int 2))) (a3z "turns" a37 (eVar 4) [])) (sSet 6 (eTup [(eBin dIx (eVar 3) (eC (.int 0))),(eBin dIx (eVar 3) (eC (.int 1))),(eBin dIx (eVar 5) (eC (.int 2))),(eBin dIx (eVar 5) (eC (.int 1)))])) (sSet 6 (eTup [(eBin dIx (eVar 3) (eC (.int 0))),(eBin dAdd (eBin dIx (eVar 3) (eC (.int 1))) (eC (.int 1))),(eC (.int 0)),(eTup [])]))) b4e))
def b4g:MC:=(sDem 4 (sSeq (sSet 5 (a3z "after" a2N (eVar 4) [(eBin dIx (eVar 3) (eC (.int 2))),(eVar 2),(eBin dIx (eVar 3) (eC (.int 3)))])) b4f))
def b4h:MC:=(sSeq (sSet 4 (a0v a6C [(eBin dIx (eVar 0) (eC (.int 0))),(a0v a6D [(eVar 0),(eBin dIx (eVar 3) (eC (.int 0))),(eBin dIx (eVar 3) (eC (.int 1)))])])) b4g)
def b4i:MC:=(sSeq (sIf (a0v a17 [(eVar 0),(eVar 3)]) (sRet (eC .non)) a0Y) b4h)
def m_turned:MC:=
 (sSeq (sSet 3 (eBin dIx (eVar 1) (eC (.int (-1))))) b4i)
def a5E:List D->Option R:=fnD 3 7 m_turned
def m_behind:MC:=
 (sRet (a0v a5E [(eVar 0),(eBin dIx (eVar 1) (eC (.int 0))),(eBin dIx (eVar 1) (eC (.int 1)))]))
def a2u:List D->Option R:=fnD 2 2 m_behind
def a8O:MC:=(sSet 1 (a0v a2u [(eVar 0),(eVar 1)]))
def a8P:MC:=(sSeq (b4s 4 (eVar 1) (eVar 2)) a8O)
def a4k:MC:=(sSeq (sIf (eBin dEq (b5d 4) (eVar 3)) b3x a0Y) a8P)
def b4W:MC:=
 (b56 (fun _=>5000) (eAnd (eUn b3f (eVar 1)) (a8c true 4 (eVar 1))) a4k)
def a5F:MF:=fnP 4 5 5 b4W
def a6M:MC:=(a9Y 1 (eBin dIx (eVar 2) (eC (.int 1))))
def a9r:MC:=(sDem 1 (sRet (a0v (f1 a40) [(eVar 1)])))
def a9s:MC:=(sSeq (sFor (iSeq (eVar 0)) (a1v 2) a6M) a9r)
def b2Z:MC:=
 (sSeq (sSet 1 (eLst [])) a9s)
def a4O:List D->Option R:=fnD 1 3 b2Z
def m_begin:MC:=
 (sRet (eTup [(eTup [(eTup [(eC (.int 0)),(eC (.int 0)),(eC (.int 0)),(eTup [])])]),(a0v a4O [(eBin dIx (eVar 0) (eC (.int 0)))])]))
def a8a:List D->Option R:=fnD 1 1 m_begin
def b5D:MC:=(sRet (a9c 3))
def b5E:MC:=(sSeq (sFor (b0o (eC (.int 1)) (eBin dAdd (eVar 1) (eC (.int 1)))) (a1v 5) b3x) b5D)
def b5F:MC:=(sSeq (sSet 4 (eC (.int 0))) b5E)
def b5G:MC:=(sSeq (b08 (b4Y 3 a5F [(eVar 0),(a0v a8a [(eVar 0)]),(eC (.int 0)),(eVar 2)] [])) b5F)
def m_table:MC:=
 (sSeq (sNewD 3) b5G)
def a79:List D->Option R:=fnD 3 9 m_table
def b7u:MC:=(sSet 3 (a0v a16 [(eVar 1),(eVar 3)]))
def b7v:MC:=(sSeq (a5d 2 (eTup [(eVar 3),(eC (.int 0))])) b7u)
def t_law_4:MC:=(sDem 2 (sRet (a0v a4S [(b0u a79 (300) [(eVar 1),(eC (.int 0))]),(eVar 2)])))
def t_law_3:MC:=(sSeq (b56 (fun _=>5000) (eUn b3f (eVar 3)) b7v) t_law_4)
def t_law_2:MC:=(sSeq (sSet 3 (a0v a4R [(eVar 1)])) t_law_3)
def t_law_1:MC:=(sSeq (sSet 2 (eLst [])) t_law_2)
def m_law:MC:=
 (sSeq (sSet 1 (a0v a3G [(eVar 0),(eBin dMod (a0v a0y [(eVar 0),(eC (.int 1))]) (eC (.int 3))),(eC (.int 12)),(eC (.int 9))])) t_law_1)
def f_law:List D->Option R:=fnD 1 4 m_law
end
end Bell
namespace Bell
end Bell
namespace Bell
open PySem L3
abbrev Bx:=Str×List Int
def bD (b:Bx):D:=.tup [.str b.1,.tup (b.2.map D.int)]
def a0N (bs:List Bx):D:=.tup (bs.map bD)
def b2j (i:Int):Prop:=-1000000000<=i/\i<=1000000000
def BxOk (b:Bx):Prop:=1<=b.2.length/\b.2.length<=2/\∀i∈b.2,b2j i
def a2m (bs:List Bx):Prop:=bs.length<=8/\∀b∈bs,BxOk b
def szB (bs:List Bx) (x:Nat):Nat:=(bs.getD x (Str.empty,[])).2.length
inductive Deed where
 | put (x:Nat) (ns:List Int)|copy (x y:Nat)|grow (x:Nat) (n:Int)|tick (x:Nat)|still (n:Nat)
 | iz (x y:Nat) (n:Int)|most (x y:Nat) (n:Int)|non (x:Nat)|anew (x y t:Nat)
def natD (n:Nat):D:=.int n
def Deed.d:Deed->D
 | .put x ns=>.tup [.str (Str.ofString "put"),.int x,.tup (ns.map D.int)]
 | .copy x y=>.tup [.str (Str.ofString "copy"),.int x,.int y]
 | .grow x n=>.tup [.str (Str.ofString "grow"),.int x,.int n]
 | .tick x=>.tup [.str (Str.ofString "tick"),.int x]
 | .still n=>.tup [.str (Str.ofString "still"),.int n]
 | .iz x y n=>.tup [.str (Str.ofString "is"),.int x,.int y,.int n]
 | .most x y n=>.tup [.str (Str.ofString "most"),.int x,.int y,.int n]
 | .non x=>.tup [.str (Str.ofString "none"),.int x]
 | .anew x y t=>.tup [.str (Str.ofString "anew"),.int x,.int y,.int t]
def Deed.Ok (bs:List Bx):Deed->Prop
 | .put x ns=>x<bs.length/\ns.length=szB bs x/\∀i∈ns,b2j i
 | .copy x y=>x<bs.length/\y<bs.length/\x≠y/\szB bs y=szB bs x
 | .grow x n=>x<bs.length/\b2j n
 | .tick x=>x<bs.length/\szB bs x=1
 | .still n=>1<=n/\n<=9
 | .iz x y n=>x<bs.length/\y<bs.length/\szB bs y=szB bs x/\b2j n
 | .most x y n=>x<bs.length/\y<bs.length/\szB bs y=szB bs x/\b2j n
 | .non x=>x<bs.length
 | .anew x y t=>x<bs.length/\y<bs.length/\t<bs.length/\x≠y/\x≠t/\y≠t/\szB bs y=szB bs x/\szB bs t=1
abbrev Pl:=Deed×Nat
structure Rw where
 nm:Str
 rk:Nat
 pl:List Pl
def plD (p:Pl):D:=.tup [p.1.d,.int p.2]
def Rw.d (r:Rw):D:=.tup [.str r.nm,.int r.rk,.tup (r.pl.map plD)]
def a1o (bs:List Bx) (rs:List Rw):D:=.tup [a0N bs,.tup (rs.map Rw.d)]
def PlOk (bs:List Bx) (bells:Nat) (p:Pl):Prop:=p.1.Ok bs/\p.2<2 ^ (bells+1)/\p.2 % 2=0
def RwOk (bs:List Bx) (bells most:Nat) (r:Rw):Prop:=1<=r.pl.length/\r.pl.length<=most/\(∀p∈r.pl,PlOk bs bells p)
structure ProgOk (bs:List Bx) (rs:List Rw) (bells most:Nat):Prop where
 box:a2m bs
 len:rs.length=bells+1
 row:∀r∈rs,RwOk bs bells most r
 main:(rs.getD 0 ⟨Str.empty,1,[]⟩).rk=0
 rank:∀k r,rs[k]?=some r->k≠0->1<=r.rk/\r.rk<=9
theorem dLen_tup (ds:List D):dLen (.tup ds)=okI (ds.length:Int):=rfl
theorem a4U (ds:List D):dLen (.lst ds)=okI (ds.length:Int):=rfl
theorem b3Q {bs:List Bx} {x:Nat} (h:x<bs.length):dIx (a0N bs) (.int x)=okD (bD bs[x]):=ix_tup (by rw [getElem?_map,getElem?_eq_getElem h];rfl)
theorem a72 (bs:List Bx):dLen (a0N bs)=okI (bs.length:Int):=by show okI ((bs.map bD).length:Int)=_;rw [length_map]
theorem b5M {bs:List Bx} {x:Nat} (h:x<bs.length):szB bs x=bs[x].2.length:=by
 unfold szB
 rw [getD_eq_getElem?_getD,getElem?_eq_getElem h]
 rfl
theorem len_ints (ns:List Int):dLen (.tup (ns.map D.int))=okI (ns.length:Int):=by show okI ((ns.map D.int).length:Int)=_;rw [length_map]
theorem b3R (b:Bx):dIx (bD b) (.int 1)=okD (.tup (b.2.map D.int)):=a1I
def mixC (ns:List Int) (k:Int):Int:=if ns=[] then 0 else (ns.getD (k % ns.length).toNat 0)
def mixW (ns:List Int) (k:Int):Int:=(mixC ns k % 1000003 * 48271+k * k * 7919+1) % 65521
def mixV (ns:List Int) (k:Int):Int:=mixW ns k * mixW ns k % 65519
theorem a7l {ns:List Int} {k:Int}:0<=mixV ns k/\mixV ns k<65519:=by
 unfold mixV
 exact ⟨emod_nonneg _ (by omega),emod_lt_of_pos _ (by omega)⟩
theorem mixW_lt {ns:List Int} {k:Int}:0<=mixW ns k/\mixW ns k<65521:=by
 unfold mixW
 exact ⟨emod_nonneg _ (by omega),emod_lt_of_pos _ (by omega)⟩
theorem b3L {ns:List Int} {k:Int} (h0:0<=k) (h1:k<=100000):a4E [some (.sh (.lst (ns.map D.int))),some (.sh (.int k)),some (.sh (.int (mixC ns k))),none]=some (.ret (.sh (.int (mixV ns k)))):=by
 have hw:=mixW_lt (ns:=ns) (k:=k)
 have hc:0<=mixC ns k % 1000003/\mixC ns k % 1000003<1000003:=⟨emod_nonneg _ (by omega),emod_lt_of_pos _ (by omega)⟩
 have e:(mixC ns k % 1000003 * 48271+k * k * 7919+1) % 65521=mixW ns k:=rfl
 have e2:mixW ns k * mixW ns k % 65519=mixV ns k:=rfl
 unfold a4E a6b
 simp (disch:=omega) only [sSeq,sSet,a20,eVar,getElem?_cons_succ,getElem?_cons_zero,okD,eC,bindV_ok,S.val_sh,a0M,okI,mulL,mulR,add_int,e,set_cons_succ,set_cons_zero,bindO_ok,sRet,e2]
theorem ix_ns {ns:List Int} {k:Int} (h:ns≠[]):dIx (.lst (ns.map D.int)) (.int (k % ns.length))=okI (mixC ns k):=by
 have hl:0<ns.length:=List.length_pos_iff.mpr h
 have hp:0<=k % (ns.length:Int):=emod_nonneg _ (by omega)
 have hq:k % (ns.length:Int)<(ns.length:Int):=emod_lt_of_pos _ (by omega)
 have e:(ns.map D.int)[(k % (ns.length:Int)).toNat]?=some (.int (ns.getD (k % (ns.length:Int)).toNat 0)):=by
  have hi:(k % (ns.length:Int)).toNat<ns.length:=by omega
  rw [getElem?_map,getD_eq_getElem?_getD,getElem?_eq_getElem hi]
  rfl
 have z:=a4d e
 rw [Int.toNat_of_nonneg hp] at z
 rw [z]
 unfold mixC
 rw [if_neg h]
theorem a1G {ns:List Int} {k:Int} (h0:0<=k) (h1:k<=100000):a0y [.lst (ns.map D.int),.int k]=okI (mixV ns k):=by
 have hlen:dLen (.lst (ns.map D.int))=okI (ns.length:Int):=by show okI ((ns.map D.int).length:Int)=_;rw [length_map]
 by_cases h:ns=[]
 ·refine a0x rfl (a0b (a0s rfl) (a0b (if_f (a0c (lenB rfl hlen) rfl (gt_f (by subst h;simp))) rfl) ?_))
  have:mixC ns k=0:=by unfold mixC;rw [if_pos h]
  have z:=b3L (ns:=ns) h0 h1
  rw [this] at z
  exact z
 ·have hl:0<ns.length:=List.length_pos_iff.mpr h
  exact a0x rfl (a0b (a0s rfl) (a0b (if_t (a0c (lenB rfl hlen) rfl (gt_t (by omega))) (a0s (a0c rfl (a0c rfl (lenB rfl hlen) (a0M (by omega))) (ix_ns h)))) (b3L h0 h1)))
theorem mix2 {ns:List Int} {k:Int}:mixV ns k % 2=0\/mixV ns k % 2=1:=by omega
theorem b1A {ns:List Int} {k:Int} (h0:0<=k) (h1:k<=90000):∃i,a0Q [.lst (ns.map D.int),.int k]=okI i/\-1000000000<=i/\i<=1000000000:=by
 have hp:dPow (.int 10) (.int 9)=okI 1000000000:=rfl
 have b1:=a7l (ns:=ns) (k:=k)
 have b2:=a7l (ns:=ns) (k:=k+1)
 by_cases c1:mixV ns k % 3=0
 ·refine ⟨mixV ns (k+1) % 5 - 2,?_,by omega,by omega⟩
  simp (disch:=omega) only [a0Q,fnD,length_cons,length_nil,reduceAdd,outR,a3y,a2q,a2p,a2o,a2n,sSeq,sSet,a0v,a0X,eVar,a1y,map_cons,map_nil,reduceSub,replicate_succ,List.replicate_zero,cons_append,nil_append,getElem?_cons_zero,okD,getElem?_cons_succ,bindV_ok,S.val_sh,a1G,okI,set_cons_succ,set_cons_zero,bindO_ok,a20,eC,add_int,sIf,a0M,c1,eq_d,okB,decide_true,asBO,sRet,sub_int,a0Y,ite_true]
 ·by_cases c2:mixV ns k % 17=1
  ·rcases mix2 (ns:=ns) (k:=k+1) with c3|c3
   ·refine ⟨1000000000,?_,by omega,by omega⟩
    simp (disch:=omega) only [a0Q,fnD,length_cons,length_nil,reduceAdd,outR,a3y,a2q,a2p,a2o,a2n,sSeq,sSet,a0v,a0X,eVar,a1y,map_cons,map_nil,reduceSub,replicate_succ,List.replicate_zero,cons_append,nil_append,getElem?_cons_zero,okD,getElem?_cons_succ,bindV_ok,S.val_sh,a1G,okI,set_cons_succ,set_cons_zero,bindO_ok,a20,eC,add_int,sIf,a0M,eq_d,okB,c1,decide_false,asBO,sRet,sub_int,a0Y,false_eq_true,ite_false,c2,decide_true,eLst,a53,okL,hp,eUn,neg_d,Int.reduceNeg,reduceLeDiff,ite_true,c3,S.val_own,O.val_lst,b1Z]
   ·refine ⟨-1000000000,?_,by omega,by omega⟩
    simp (disch:=omega) only [a0Q,fnD,length_cons,length_nil,reduceAdd,outR,a3y,a2q,a2p,a2o,a2n,sSeq,sSet,a0v,a0X,eVar,a1y,map_cons,map_nil,reduceSub,replicate_succ,List.replicate_zero,cons_append,nil_append,getElem?_cons_zero,okD,getElem?_cons_succ,bindV_ok,S.val_sh,a1G,okI,set_cons_succ,set_cons_zero,bindO_ok,a20,eC,add_int,sIf,a0M,eq_d,okB,c1,decide_false,asBO,sRet,sub_int,a0Y,false_eq_true,ite_false,c2,decide_true,eLst,a53,okL,hp,eUn,neg_d,Int.reduceNeg,reduceLeDiff,ite_true,c3,S.val_own,O.val_lst,b40]
  ·refine ⟨(mixV ns k * 65519+mixV ns (k+1)) % 2000000001 - 1000000000,?_,by omega,by omega⟩
   simp (disch:=omega) only [a0Q,fnD,length_cons,length_nil,reduceAdd,outR,a3y,a2q,a2p,a2o,a2n,sSeq,sSet,a0v,a0X,eVar,a1y,map_cons,map_nil,reduceSub,replicate_succ,List.replicate_zero,cons_append,nil_append,getElem?_cons_zero,okD,getElem?_cons_succ,bindV_ok,S.val_sh,a1G,okI,set_cons_succ,set_cons_zero,bindO_ok,a20,eC,add_int,sIf,a0M,eq_d,okB,c1,decide_false,asBO,sRet,sub_int,a0Y,false_eq_true,ite_false,c2,eLst,a53,okL,eUn,reduceLeDiff,ite_true,mulL]
def numV (ns:List Int) (k:Int):Int:=match a0Q [.lst (ns.map D.int),.int k] with
 | some (.ok (.sh (.int i)))=>i
 | _=>0
theorem a6x {ns:List Int} {k:Int} (h0:0<=k) (h1:k<=90000):a0Q [.lst (ns.map D.int),.int k]=okI (numV ns k):=by
 obtain ⟨i,e,_⟩:=b1A (ns:=ns) h0 h1
 unfold numV
 rw [e]
theorem a6w {ns:List Int} {k:Int} (h0:0<=k) (h1:k<=90000):-1000000000<=numV ns k/\numV ns k<=1000000000:=by
 obtain ⟨i,e,h⟩:=b1A (ns:=ns) h0 h1
 unfold numV
 rw [e]
 exact h
theorem letter8 {k:Nat} (h:k<8):∃c,dIx (.str (Str.ofString "abcdefgh")) (.int k)=okD (.str ⟨#[c]⟩):=by
 have hk:k=0\/k=1\/k=2\/k=3\/k=4\/k=5\/k=6\/k=7:=by omega
 rcases hk with rfl|rfl|rfl|rfl|rfl|rfl|rfl|rfl <;> exact ⟨_,rfl⟩
def b0A (ns:List Int) (sz many:Int) (k:Nat) (ρ:MEnv):Prop:=∃(bs:List Bx) (e4 e5 e6 e7:Option S),bs.length=k/\(∀b∈bs,BxOk b)/\
 ρ=[some (.sh (.lst (ns.map D.int))),some (.sh (.int sz)),some (.sh (.int many)),some (.own (.lst (bs.map bD))),e4,e5,e6,e7]
theorem b5i {ns:List Int} {sz many:Int} (hs:sz=1\/sz=2) {k:Nat} (hk:k<8) {ρ:MEnv} (I:b0A ns sz many k ρ):∃ρ1 ρ2,a1v 4 (.int k) ρ=some ρ1/\a4W ρ1=some (.next ρ2)/\b0A ns sz many (k+1) ρ2:=by
 obtain ⟨bs,e4,e5,e6,e7,hl,hb,rfl⟩:=I
 obtain ⟨c,hc⟩:=letter8 hk
 obtain ⟨at',hat⟩:∃a:Int,a=4+5 * (k:Int)+400 * ((k:Int) / 3):=⟨_,rfl⟩
 have ha:0<=at'/\at'<=10000:=by omega
 have n1:=a6x (ns:=ns) (k:=at') (by omega) (by omega)
 have n2:=a6x (ns:=ns) (k:=at'+3) (by omega) (by omega)
 have l1:=a6w (ns:=ns) (k:=at') (by omega) (by omega)
 have l2:=a6w (ns:=ns) (k:=at'+3) (by omega) (by omega)
 have m1:=a1G (ns:=ns) (k:=at'+2) (by omega) (by omega)
 have lb:(bs.map bD).length<lim:=by rw [length_map,hl];exact lt_of_lt_of_le hk (by decide)
 have fin:∀(q:List Int),BxOk (Str.mk #[c],q)->∀e7:Option S,∃ρ2,a5o [some (.sh (.lst (ns.map D.int))),some (.sh (.int sz)),some (.sh (.int many)),some (.own (.lst (bs.map bD))),some (.sh (.int k)),some (.sh (.int at')),some (.own (.lst (q.map D.int))),e7]=some (.next ρ2)/\b0A ns sz many (k+1) ρ2:=fun q hq e7=>by
  refine ⟨_,a1u (a5I rfl (tup2 (a0c rfl rfl hc) (a0W rfl rfl)) lb),bs++[(Str.mk #[c],q)],some (.sh (.int k)),some (.sh (.int at')),some (.sh (.lst (q.map D.int))),e7,by simp [hl],?_,?_⟩
  ·intro b hb'
   rcases mem_append.mp hb' with h|h
   ·exact hb b h
   ·rw [mem_singleton.mp h];exact hq
  ·rw [map_append];rfl
 obtain ⟨cc,hcc⟩:∃cc:Bool,eOr (eAnd (eBin dEq (eVar 1) (eC (.int 2))) (eBin dGt (eVar 7) (eBin dIx (eLst [(eC (.int 0)),(eC (.int 0)),(eC (.int 2))]) (eBin dMod (eVar 4) (eC (.int 3)))))) (eAnd (eBin dEq (eVar 1) (eC (.int 1))) (eBin dEq (eVar 7) (eC (.int 0))))
   [some (.sh (.lst (ns.map D.int))),some (.sh (.int sz)),some (.sh (.int many)),some (.own (.lst (bs.map bD))),some (.sh (.int k)),some (.sh (.int at')),some (.own (.lst [.int (numV ns at')])),some (.sh (.int (mixV ns (at'+2) % 5)))]=okB cc:=by
  rcases hs with rfl|rfl
  ·by_cases h:mixV ns (at'+2) % 5=0
   ·exact ⟨true,by simp (disch:=omega) only [eOr,eAnd,h,a20,eVar,getElem?_cons_succ,getElem?_cons_zero,okD,eC,bindV_ok,S.val_sh,eq_d,okB,reduceEq,decide_false,asB,eLst,a53,okL,a0v,a0X,length_cons,length_nil,reduceAdd,reduceLeDiff,ite_true,a0M,okI,S.val_own,O.val_lst,false_eq_true,ite_false,decide_true]⟩
   ·exact ⟨false,by simp (disch:=omega) only [eOr,eAnd,a20,eVar,getElem?_cons_succ,getElem?_cons_zero,okD,eC,bindV_ok,S.val_sh,eq_d,okB,reduceEq,decide_false,asB,eLst,a53,okL,a0v,a0X,length_cons,length_nil,reduceAdd,reduceLeDiff,ite_true,a0M,okI,S.val_own,O.val_lst,false_eq_true,ite_false,decide_true,h]⟩
  ·have h3:(k:Int) % 3=0\/(k:Int) % 3=1\/(k:Int) % 3=2:=by omega
   rcases h3 with h3|h3|h3
   ·by_cases h:0<mixV ns (at'+2) % 5
    ·exact ⟨true,by simp (disch:=omega) only [eOr,eAnd,a20,eVar,getElem?_cons_succ,getElem?_cons_zero,okD,eC,bindV_ok,S.val_sh,eq_d,okB,decide_true,asB,eLst,a53,okL,a0v,a0X,length_cons,length_nil,reduceAdd,reduceLeDiff,ite_true,a0M,okI,h3,S.val_own,O.val_lst,b1Z,gt_d,h,reduceEq,decide_false,false_eq_true,ite_false]⟩
    ·exact ⟨false,by simp (disch:=omega) only [eOr,eAnd,a20,eVar,getElem?_cons_succ,getElem?_cons_zero,okD,eC,bindV_ok,S.val_sh,eq_d,okB,decide_true,asB,eLst,a53,okL,a0v,a0X,length_cons,length_nil,reduceAdd,reduceLeDiff,ite_true,a0M,okI,h3,S.val_own,O.val_lst,b1Z,gt_d,h,decide_false,reduceEq,false_eq_true,ite_false]⟩
   ·by_cases h:0<mixV ns (at'+2) % 5
    ·exact ⟨true,by simp (disch:=omega) only [eOr,eAnd,a20,eVar,getElem?_cons_succ,getElem?_cons_zero,okD,eC,bindV_ok,S.val_sh,eq_d,okB,decide_true,asB,eLst,a53,okL,a0v,a0X,length_cons,length_nil,reduceAdd,reduceLeDiff,ite_true,a0M,okI,h3,S.val_own,O.val_lst,b40,gt_d,h,reduceEq,decide_false,false_eq_true,ite_false]⟩
    ·exact ⟨false,by simp (disch:=omega) only [eOr,eAnd,a20,eVar,getElem?_cons_succ,getElem?_cons_zero,okD,eC,bindV_ok,S.val_sh,eq_d,okB,decide_true,asB,eLst,a53,okL,a0v,a0X,length_cons,length_nil,reduceAdd,reduceLeDiff,ite_true,a0M,okI,h3,S.val_own,O.val_lst,b40,gt_d,h,decide_false,reduceEq,false_eq_true,ite_false]⟩
   ·by_cases h:2<mixV ns (at'+2) % 5
    ·exact ⟨true,by simp (disch:=omega) only [eOr,eAnd,a20,eVar,getElem?_cons_succ,getElem?_cons_zero,okD,eC,bindV_ok,S.val_sh,eq_d,okB,decide_true,asB,eLst,a53,okL,a0v,a0X,length_cons,length_nil,reduceAdd,reduceLeDiff,ite_true,a0M,okI,h3,S.val_own,O.val_lst,ix_l2,gt_d,h,reduceEq,decide_false,false_eq_true,ite_false]⟩
    ·exact ⟨false,by simp (disch:=omega) only [eOr,eAnd,a20,eVar,getElem?_cons_succ,getElem?_cons_zero,okD,eC,bindV_ok,S.val_sh,eq_d,okB,decide_true,asB,eLst,a53,okL,a0v,a0X,length_cons,length_nil,reduceAdd,reduceLeDiff,ite_true,a0M,okI,h3,S.val_own,O.val_lst,ix_l2,gt_d,h,decide_false,reduceEq,false_eq_true,ite_false]⟩
 have s1:(sSet 5 (eBin dAdd (eBin dAdd (eC (.int 4)) (eBin dMul (eC (.int 5)) (eVar 4))) (eBin dMul (eC (.int 400)) (eBin a7t (eVar 4) (eC (.int 3)))))) [some (.sh (.lst (ns.map D.int))),some (.sh (.int sz)),some (.sh (.int many)),some (.own (.lst (bs.map bD))),some (.sh (.int k)),e5,e6,e7]
   = some (.next [some (.sh (.lst (ns.map D.int))),some (.sh (.int sz)),some (.sh (.int many)),some (.own (.lst (bs.map bD))),some (.sh (.int k)),some (.sh (.int at')),e6,e7]):=by
  simp (disch:=omega) only [sSet,a20,eC,okD,eVar,getElem?_cons_succ,getElem?_cons_zero,bindV_ok,S.val_sh,mulL,okI,add_int,a4f,set_cons_succ,set_cons_zero,bindO_ok]
  rw [hat]
 cases cc with
 | true=>
  obtain ⟨ρ2,h1,h2⟩:=fin [numV ns at',numV ns (at'+3)] ⟨by simp,by simp,by intro i hi;simp at hi;rcases hi with rfl|rfl <;> assumption⟩ (some (.sh (.int (mixV ns (at'+2) % 5))))
  exact ⟨_,ρ2,rfl,a0b s1 (a0b (a0s (a0W (a0S rfl rfl n1) rfl)) (a0b (a0s (a0c (a0S rfl (a0c rfl rfl rfl) m1) rfl (a0M (by decide)))) (a0b (if_t hcc (a5I rfl (a0S rfl (a0c rfl rfl rfl) n2) (by show 1<lim;decide))) h1))),h2⟩
 | false=>
  obtain ⟨ρ2,h1,h2⟩:=fin [numV ns at'] ⟨by simp,by simp,by intro i hi;simp at hi;subst hi;assumption⟩ (some (.sh (.int (mixV ns (at'+2) % 5))))
  exact ⟨_,ρ2,rfl,a0b s1 (a0b (a0s (a0W (a0S rfl rfl n1) rfl)) (a0b (a0s (a0c (a0S rfl (a0c rfl rfl rfl) m1) rfl (a0M (by decide)))) (a0b (if_f hcc rfl) h1))),h2⟩
theorem boxes_ok (ns:List Int):∃bs:List Bx,a4Q [.lst (ns.map D.int)]=okD (a0N bs)/\a2m bs:=by
 have m3:=a1G (ns:=ns) (k:=3) (by decide) (by decide)
 have m2:=a1G (ns:=ns) (k:=2) (by decide) (by decide)
 have b2:=a7l (ns:=ns) (k:=2)
 obtain ⟨many,hm,hm8⟩:∃many:Nat,eBin dIx (eLst [(eBin dMod (eBin a7t (eVar 2) (eC (.int 16))) (eC (.int 4))),(eBin dAdd (eC (.int 4)) (eBin dMod (eBin a7t (eVar 2) (eC (.int 16))) (eC (.int 5))))]) (a0v (f1 dInt) [(eBin dEq (eBin dMod (eVar 2) (eC (.int 8))) (eC (.int 0)))])
   [some (.sh (.lst (ns.map D.int))),some (.sh (.int (1+mixV ns 3 % 2))),some (.sh (.int (mixV ns 2))),none,none,none,none,none]=okI (many:Int)/\many<=8:=by
  by_cases h:mixV ns 2 % 8=0
  ·refine ⟨(4+mixV ns 2 / 16 % 5).toNat,?_,by omega⟩
   have:((4+mixV ns 2 / 16 % 5).toNat:Int)=4+mixV ns 2 / 16 % 5:=by omega
   rw [this]
   simp (disch:=omega) only [eLst,a53,okL,a20,a0v,a0X,eVar,getElem?_cons_succ,getElem?_cons_zero,okD,eC,bindV_ok,S.val_sh,a4f,okI,a0M,add_int,length_cons,length_nil,reduceAdd,reduceLeDiff,ite_true,h,eq_d,okB,decide_true,f1,int_t,S.val_own,O.val_lst,b40]
  ·refine ⟨(mixV ns 2 / 16 % 4).toNat,?_,by omega⟩
   have:((mixV ns 2 / 16 % 4).toNat:Int)=mixV ns 2 / 16 % 4:=by omega
   rw [this]
   simp (disch:=omega) only [eLst,a53,okL,a20,a0v,a0X,eVar,getElem?_cons_succ,getElem?_cons_zero,okD,eC,bindV_ok,S.val_sh,a4f,okI,a0M,add_int,length_cons,length_nil,reduceAdd,reduceLeDiff,ite_true,eq_d,okB,h,decide_false,f1,int_f,S.val_own,O.val_lst,b1Z]
 obtain ⟨ρ',e,bs,e4,e5,e6,e7,hl,hb,rfl⟩:=a7d (bd:=a1v 4) (body:=a4W) (ρ:=[some (.sh (.lst (ns.map D.int))),some (.sh (.int (1+mixV ns 3 % 2))),some (.sh (.int many)),some (.own (.lst [])),none,none,none,none]) (b0A ns (1+mixV ns 3 % 2) many) many
  ⟨[],none,none,none,none,rfl,fun _ h=>(nomatch h),rfl⟩ (fun k ρ hk I=>b5i (by omega) (by omega) I)
 exact ⟨bs,a0x rfl (a0b (a0s (a0c rfl (a0c (a0S rfl rfl m3) rfl (a0M (by decide))) rfl)) (a0b (a0s (a0S rfl rfl m2)) (a0b (a0s hm) (a0b (a0s rfl) (a0b (b48 (a2t rfl (a1r (by omega))) e) (a1u (a0I (a0W rfl rfl)))))))),by omega,hb⟩
def st0 (bs:List Bx) (x:Nat):Int:=(bs.getD x (Str.empty,[])).2.getD 0 0
theorem st0_e {bs:List Bx} (hb:a2m bs) {x:Nat} (h:x<bs.length) {ρ:MEnv} {i j:Nat} (hi:ρ[i]?=some (some (.sh (a0N bs)))) (hj:ρ[j]?=some (some (.sh (.int x)))):eBin dIx (eBin dIx (eBin dIx (eVar i) (eVar j)) (eC (.int 1))) (eC (.int 0)) ρ=okI (st0 bs x):=by
 have hl:=(hb.2 bs[x] (getElem_mem h)).1
 refine a0c (a0c (a0c (a02 hi) (a02 hj) (b3Q h)) rfl (b3R _)) rfl ?_
 have:(bs[x].2.map D.int)[0]?=some (.int (st0 bs x)):=by
  unfold st0
  rw [getD_eq_getElem?_getD (l:=bs),getElem?_eq_getElem h,Option.getD_some,getElem?_map,getD_eq_getElem?_getD,getElem?_eq_getElem (by omega)]
  rfl
 exact ix_tup this
theorem a8V {bs:List Bx} {x:Nat} (h:x<bs.length) {ρ:MEnv} {i j:Nat} (hi:ρ[i]?=some (some (.sh (a0N bs)))) (hj:ρ[j]?=some (some (.sh (.int x)))):a0E (f1 dLen) [eBin dIx (eBin dIx (eVar i) (eVar j)) (eC (.int 1))] ρ=okI (szB bs x:Nat):=by
 rw [b5M h]
 exact lenB (a0c (a0c (a02 hi) (a02 hj) (b3Q h)) rfl (b3R _)) (len_ints _)
theorem a2z {bs:List Bx} (hb:a2m bs) {x:Nat} (h:x<bs.length):szB bs x=1\/szB bs x=2:=by
 have hx:=hb.2 bs[x] (getElem_mem h)
 rw [b5M h]
 have:=hx.1;have:=hx.2.1
 omega
abbrev intD (k:Nat):D:=.int k
def a5J (bs:List Bx) (x:Nat):List Nat:=(List.range bs.length).filter fun y=>!decide (y=x) && decide (szB bs y=szB bs x)
def ones (bs:List Bx) (x y:Nat):List Nat:=(List.range bs.length).filter fun t=>!decide (t=x) && (!decide (t=y) && decide (szB bs t=1))
theorem b6H {bs:List Bx} {x y:Nat}:y∈a5J bs x↔y<bs.length/\y≠x/\szB bs y=szB bs x:=by
 unfold a5J;rw [mem_filter,mem_range];simp
theorem ones_mem {bs:List Bx} {x y t:Nat}:t∈ones bs x y↔t<bs.length/\t≠x/\t≠y/\szB bs t=1:=by
 unfold ones;rw [mem_filter,mem_range];simp
theorem b6I {bs:List Bx} {x:Nat}:(a5J bs x).length<=bs.length:=by
 unfold a5J;refine le_trans (List.length_filter_le _ _) ?_;rw [length_range];exact le_refl _
theorem eqN (i j:Nat):dEq (.int i) (.int j)=okB (decide (i=j)):=by rw [eq_d,show decide ((i:Int)=(j:Int))=decide (i=j) from decide_eq_decide.mpr (by omega)]
theorem neN (i j:Nat):dNe (.int i) (.int j)=okB (!decide (i=j)):=by rw [ne_d,show decide ((i:Int)=(j:Int))=decide (i=j) from decide_eq_decide.mpr (by omega)]
theorem and_b {ρ:MEnv} {a b:ME} {p q:Bool} (h1:a ρ=okB p) (h2:b ρ=okB q):eAnd a b ρ=okB (p && q):=by
 cases p with
 | true=>exact a35 h1 h2
 | false=>exact a6Q h1
theorem mates_e {bs:List Bx} (hb:a2m bs) {x:Nat} {sz:Int} (hs:sz=(szB bs x:Nat)) {ρ:MEnv} {js:List Nat} {i j s v:Nat} (h0:ρ[i]?=some (some (.sh (a0N bs)))) (hi:(a1c js ρ)[i]?=some (some (.sh (a0N bs)))) (hj:(a1c js ρ)[j]?=some (some (.sh (.int x)))) (hz:(a1c js ρ)[s]?=some (some (.sh (.int sz)))) (hv:v<ρ.length) (n1:v≠i) (n2:v≠j) (n3:v≠s) (hjs:(a1c js ρ).length=ρ.length):
  a1R js (a05 (a0E (f1 dLen) [eAny i])) (a1v v) (eAnd (eBin dNe (eVar v) (eVar j)) (eBin dEq (a0E (f1 dLen) [eBin dIx (eBin dIx (eVar i) (eVar v)) (eC (.int 1))]) (eVar s))) (eVar v) ρ=okL ((a5J bs x).map intD):=by
 unfold a5J
 refine b3g (List.range bs.length) intD (fun y=>!decide (y=x) && decide (szB bs y=szB bs x)) intD ?_ ?_ fun y hy=>?_
 ·rw [←rng0]
  exact a2t (lenB (a8l h0) (a72 bs)) (a1r (by have:=hb.1;omega))
 ·rw [length_range];exact le_trans hb.1 (by decide)
 ·have hy':=mem_range.mp hy
  have hself:((a1c js ρ).set v (some (.sh (intD y))))[v]?=some (some (.sh (intD y))):=getElem?_set_self (by omega)
  refine ⟨_,rfl,and_b (a0c (a02 hself) (a02 (by rw [getElem?_set_ne n2];exact hj)) (neN y x)) (a0c (a8V hy' (by rw [getElem?_set_ne n1];exact hi) hself) (a02 (by rw [getElem?_set_ne n3];exact hz)) (by rw [hs];exact eqN _ _)),fun _=>⟨_,a02 hself,rfl⟩⟩
theorem ones_e {bs:List Bx} (hb:a2m bs) {x y:Nat} {ρ:MEnv} {js:List Nat} {i j s v:Nat} (h0:ρ[i]?=some (some (.sh (a0N bs)))) (hi:(a1c js ρ)[i]?=some (some (.sh (a0N bs)))) (hj:(a1c js ρ)[j]?=some (some (.sh (.int x)))) (hz:(a1c js ρ)[s]?=some (some (.sh (.int y)))) (hv:v<ρ.length) (n1:v≠i) (n2:v≠j) (n3:v≠s) (hjs:(a1c js ρ).length=ρ.length):
  a1R js (a05 (a0E (f1 dLen) [eAny i])) (a1v v) (eAnd (eBin dNe (eVar v) (eVar j)) (eAnd (eBin dNe (eVar v) (eVar s)) (eBin dEq (a0E (f1 dLen) [eBin dIx (eBin dIx (eVar i) (eVar v)) (eC (.int 1))]) (eC (.int 1))))) (eVar v) ρ=okL ((ones bs x y).map intD):=by
 unfold ones
 refine b3g (List.range bs.length) intD (fun t=>!decide (t=x) && (!decide (t=y) && decide (szB bs t=1))) intD ?_ ?_ fun t ht=>?_
 ·rw [←rng0]
  exact a2t (lenB (a8l h0) (a72 bs)) (a1r (by have:=hb.1;omega))
 ·rw [length_range];exact le_trans hb.1 (by decide)
 ·have ht':=mem_range.mp ht
  have hself:((a1c js ρ).set v (some (.sh (intD t))))[v]?=some (some (.sh (intD t))):=getElem?_set_self (by omega)
  refine ⟨_,rfl,and_b (a0c (a02 hself) (a02 (by rw [getElem?_set_ne n2];exact hj)) (neN t x)) (and_b (a0c (a02 hself) (a02 (by rw [getElem?_set_ne n3];exact hz)) (neN t y)) (a0c (a8V ht' (by rw [getElem?_set_ne n1];exact hi) hself) rfl (eqN _ 1))),fun _=>⟨_,a02 hself,rfl⟩⟩
theorem ix_nat {l:List Nat} {j:Nat} (h:j<l.length):dIx (.lst (l.map intD)) (.int j)=okI (l[j]:Nat):=a4d (by rw [getElem?_map,getElem?_eq_getElem h];rfl)
theorem b7e {ns:List Int} {bs:List Bx} (hb:a2m bs) {k rest kind pick n:Int} {x m:Nat} {ms:D} (hk0:0<=k) (hk1:k<=80000) (hkind:0<=kind/\kind<11) (hk4:kind≠4) (hp:0<=pick/\pick<65519) (hn:b2j n) (hx:x<bs.length) (hm:m<bs.length) (hms:szB bs m=szB bs x):
  ∃dd:Deed,dd.Ok bs/\a5b [some (.sh (.lst (ns.map D.int))),some (.sh (.int k)),some (.sh (a0N bs)),some (.sh (.int rest)),some (.sh (.int kind)),some (.sh (.int pick)),some (.sh (.int n)),some (.sh (.int x)),some (.sh (.int (szB bs x:Nat))),some (.sh ms),some (.sh (.int m)),none,none,none,none]=some (.ret (.sh dd.d)):=by
 have h12:=a2z hb hx
 have hn2:=a6x (ns:=ns) (k:=k+5) (by omega) (by omega)
 have hl2:=a6w (ns:=ns) (k:=k+5) (by omega) (by omega)
 have hone:=ones_e (x:=x) (y:=m) hb (ρ:=[some (.sh (.lst (ns.map D.int))),some (.sh (.int k)),some (.sh (a0N bs)),some (.sh (.int rest)),some (.sh (.int kind)),some (.sh (.int pick)),some (.sh (.int n)),some (.sh (.int x)),some (.sh (.int (szB bs x:Nat))),some (.sh ms),some (.sh (.int m)),none,none,none,none]) (js:=[14]) (i:=2) (j:=7) (s:=10) (v:=14) rfl rfl rfl rfl (by show 14<15;decide) (by decide) (by decide) (by decide) rfl
 have late:(kind=0\/kind=1\/kind=8\/kind=9)->∃dd:Deed,dd.Ok bs/\a6d [some (.sh (.lst (ns.map D.int))),some (.sh (.int k)),some (.sh (a0N bs)),some (.sh (.int rest)),some (.sh (.int kind)),some (.sh (.int pick)),some (.sh (.int n)),some (.sh (.int x)),some (.sh (.int (szB bs x:Nat))),some (.sh ms),some (.sh (.int m)),none,none,none,none]=some (.ret (.sh dd.d)):=fun hkk=>by
  have put:∃dd:Deed,dd.Ok bs/\a6c [some (.sh (.lst (ns.map D.int))),some (.sh (.int k)),some (.sh (a0N bs)),some (.sh (.int rest)),some (.sh (.int kind)),some (.sh (.int pick)),some (.sh (.int n)),some (.sh (.int x)),some (.sh (.int (szB bs x:Nat))),some (.sh ms),some (.sh (.int m)),some (.own (.lst ((ones bs x m).map intD))),none,none,none]=some (.ret (.sh dd.d)):=by
   rcases h12 with h|h
   ·refine ⟨.put x [n],⟨hx,by rw [h];rfl,by intro i hi;simp at hi;subst hi;exact hn⟩,?_⟩
    rw [h]
    exact a0F (if_t rfl (a0I (a1S rfl rfl (a0W rfl rfl) rfl)))
   ·refine ⟨.put x [n,numV ns (k+5)],⟨hx,by rw [h];rfl,by intro i hi;simp at hi;rcases hi with rfl|rfl <;> assumption⟩,?_⟩
    rw [h]
    exact a0b (if_f rfl rfl) (a0I (a1S rfl rfl (a0S rfl (a0S rfl (a0c rfl rfl rfl) hn2) rfl) rfl))
  obtain ⟨dd,hd,he⟩:=put
  have hlen:dLen (.lst ((ones bs x m).map intD))=okI ((ones bs x m).length:Int):=by rw [a4U,length_map]
  by_cases c8:kind=8
  ·by_cases cm:m=x
   ·exact ⟨dd,hd,a0b (a0s hone) (a0b (if_f (a35 (a0c rfl rfl (eq_t c8)) (a6Q (a0c rfl rfl (ne_f (by omega))))) rfl) he)⟩
   ·by_cases cl:0<(ones bs x m).length
    ·obtain ⟨j,hj⟩:∃j:Nat,pick / 5 % ((ones bs x m).length:Int)=j:=⟨(pick / 5 % ((ones bs x m).length:Int)).toNat,by have:=emod_nonneg (pick / 5) (b:=((ones bs x m).length:Int)) (by omega);omega⟩
     have hjl:j<(ones bs x m).length:=by have:=emod_lt_of_pos (pick / 5) (b:=((ones bs x m).length:Int)) (by omega);omega
     have hmem:=ones_mem.mp (getElem_mem hjl)
     refine ⟨.anew x m ((ones bs x m)[j]),⟨hx,hm,hmem.1,fun z=>cm z.symm,fun z=>hmem.2.1 z.symm,fun z=>hmem.2.2.1 z.symm,hms,hmem.2.2.2⟩,a0b (a0s hone) (a0F (if_t (a35 (a0c rfl rfl (eq_t c8)) (a35 (a0c rfl rfl (ne_t (by omega))) (a0c (lenB rfl hlen) rfl (gt_t (by omega))))) (a1u (a0I (a7e (s4:=.sh (.int ((ones bs x m)[j]:Nat))) rfl rfl rfl (a0c rfl (a0c (a0c rfl rfl (a4f (by decide) (by decide))) (lenB rfl hlen) (a0M (by omega))) ?_) rfl)))))⟩
     rw [S.val_sh,hj]
     exact ix_nat hjl
    ·exact ⟨dd,hd,a0b (a0s hone) (a0b (if_f (a35 (a0c rfl rfl (eq_t c8)) (a35 (a0c rfl rfl (ne_t (by omega))) (a0c (lenB rfl hlen) rfl (gt_f (by omega))))) rfl) he)⟩
  ·exact ⟨dd,hd,a0b (a0s hone) (a0b (if_f (a6Q (a0c rfl rfl (eq_f c8))) rfl) he)⟩
 have hkk:kind=0\/kind=1\/kind=2\/kind=3\/kind=4\/kind=5\/kind=6\/kind=7\/kind=8\/kind=9\/kind=10:=by omega
 have tl:(kind=0\/kind=8\/kind=9\/(kind=1/\m=x))->∃dd:Deed,dd.Ok bs/\a5b [some (.sh (.lst (ns.map D.int))),some (.sh (.int k)),some (.sh (a0N bs)),some (.sh (.int rest)),some (.sh (.int kind)),some (.sh (.int pick)),some (.sh (.int n)),some (.sh (.int x)),some (.sh (.int (szB bs x:Nat))),some (.sh ms),some (.sh (.int m)),none,none,none,none]=some (.ret (.sh dd.d)):=fun hw=>by
  obtain ⟨dd,hd,he⟩:=late (by omega)
  refine ⟨dd,hd,a0b (if_f (or_f (a0c rfl rfl (eq_f (by omega))) (a0c rfl rfl (eq_f (by omega)))) rfl) (a0b (if_f ?_ rfl) (a0b (if_f (or_f (a0c rfl rfl (eq_f (by omega))) (a6Q (a0c rfl rfl (eq_f (by omega))))) rfl) (a0b (if_f (a0c rfl rfl (eq_f (by omega))) rfl) (a0b (if_f (or_f (a0c rfl rfl (eq_f (by omega))) (a0c rfl rfl (eq_f (by omega)))) rfl) he))))⟩
  by_cases h1:kind=1
  ·exact a35 (a0c rfl rfl (eq_t h1)) (a0c rfl rfl (ne_f (by omega)))
  ·exact a6Q (a0c rfl rfl (eq_f h1))
 have i5:∀c,(kind=c/\c≠5/\c≠6)->eOr (eBin dEq (eVar 4) (eC (.int 5))) (eBin dEq (eVar 4) (eC (.int 6))) [some (.sh (.lst (ns.map D.int))),some (.sh (.int k)),some (.sh (a0N bs)),some (.sh (.int rest)),some (.sh (.int kind)),some (.sh (.int pick)),some (.sh (.int n)),some (.sh (.int x)),some (.sh (.int (szB bs x:Nat))),some (.sh ms),some (.sh (.int m)),none,none,none,none]=okB false:=fun c ⟨h1,h2,h3⟩=>or_f (a0c rfl rfl (eq_f (by omega))) (a0c rfl rfl (eq_f (by omega)))
 by_cases c56:kind=5\/kind=6
 ·
  have t5:eOr (eBin dEq (eVar 4) (eC (.int 5))) (eBin dEq (eVar 4) (eC (.int 6))) [some (.sh (.lst (ns.map D.int))),some (.sh (.int k)),some (.sh (a0N bs)),some (.sh (.int rest)),some (.sh (.int kind)),some (.sh (.int pick)),some (.sh (.int n)),some (.sh (.int x)),some (.sh (.int (szB bs x:Nat))),some (.sh ms),some (.sh (.int m)),none,none,none,none]=okB true:=by
   rcases c56 with h|h
   ·exact or_t (a0c rfl rfl (eq_t h))
   ·exact or_f (a0c rfl rfl (eq_f (by omega))) (a0c rfl rfl (eq_t h))
  have gx:=st0_e hb hx (ρ:=[some (.sh (.lst (ns.map D.int))),some (.sh (.int k)),some (.sh (a0N bs)),some (.sh (.int rest)),some (.sh (.int kind)),some (.sh (.int pick)),some (.sh (.int n)),some (.sh (.int x)),some (.sh (.int (szB bs x:Nat))),some (.sh ms),some (.sh (.int m)),none,none,none,none]) (i:=2) (j:=7) rfl rfl
  have gm:=st0_e hb hm (ρ:=[some (.sh (.lst (ns.map D.int))),some (.sh (.int k)),some (.sh (a0N bs)),some (.sh (.int rest)),some (.sh (.int kind)),some (.sh (.int pick)),some (.sh (.int n)),some (.sh (.int x)),some (.sh (.int (szB bs x:Nat))),some (.sh ms),some (.sh (.int m)),none,none,none,none]) (i:=2) (j:=10) rfl rfl
  have last:∀(n':Int),b2j n'->∃dd:Deed,dd.Ok bs/\(sRet (eTup [(eBin dIx (eLst [(eC (.str (Str.ofString "is"))),(eC (.str (Str.ofString "most")))]) (eBin dSub (eVar 4) (eC (.int 5)))),(eVar 7),(eVar 10),(eVar 6)])) [some (.sh (.lst (ns.map D.int))),some (.sh (.int k)),some (.sh (a0N bs)),some (.sh (.int rest)),some (.sh (.int kind)),some (.sh (.int pick)),some (.sh (.int n')),some (.sh (.int x)),some (.sh (.int (szB bs x:Nat))),some (.sh ms),some (.sh (.int m)),none,some (.sh (.int (st0 bs x - st0 bs m))),none,none]=some (.ret (.sh dd.d)):=fun n' hn'=>by
   rcases c56 with rfl|rfl
   ·exact ⟨.iz x m n',⟨hx,hm,hms,hn'⟩,a0I (a7e (a0c rfl (a0c rfl rfl rfl) b1Z) rfl rfl rfl rfl)⟩
   ·exact ⟨.most x m n',⟨hx,hm,hms,hn'⟩,a0I (a7e (a0c rfl (a0c rfl rfl rfl) b40) rfl rfl rfl rfl)⟩
  by_cases q1:0<pick / 7 % 3
  ·by_cases q2:(if st0 bs x - st0 bs m<0 then -(st0 bs x - st0 bs m) else st0 bs x - st0 bs m)<=1000000000
   ·obtain ⟨dd,hd,he⟩:=last (st0 bs x - st0 bs m) (by unfold b2j;split at q2 <;> omega)
    exact ⟨dd,hd,a0F (if_t t5 (a0b (a0s (a0c gx gm rfl)) (a0b (if_t (a35 (a0c (a0c (a0c rfl rfl (a4f (by decide) (by decide))) rfl (a0M (by decide))) rfl (gt_t q1)) (a0c (a0W rfl rfl) (a0c rfl rfl rfl) (le_t q2))) (a0s rfl)) he)))⟩
   ·obtain ⟨dd,hd,he⟩:=last n hn
    exact ⟨dd,hd,a0F (if_t t5 (a0b (a0s (a0c gx gm rfl)) (a0b (if_f (a35 (a0c (a0c (a0c rfl rfl (a4f (by decide) (by decide))) rfl (a0M (by decide))) rfl (gt_t q1)) (a0c (a0W rfl rfl) (a0c rfl rfl rfl) (le_f q2))) rfl) he)))⟩
  ·obtain ⟨dd,hd,he⟩:=last n hn
   exact ⟨dd,hd,a0F (if_t t5 (a0b (a0s (a0c gx gm rfl)) (a0b (if_f (a6Q (a0c (a0c (a0c rfl rfl (a4f (by decide) (by decide))) rfl (a0M (by decide))) rfl (gt_f q1))) rfl) he)))⟩
 ·have e56:=i5 kind ⟨rfl,by omega,by omega⟩
  by_cases c1:kind=1/\m≠x
  ·exact ⟨.copy x m,⟨hx,hm,fun z=>c1.2 z.symm,hms⟩,a0b (if_f e56 rfl) (a0F (if_t (a35 (a0c rfl rfl (eq_t c1.1)) (a0c rfl rfl (ne_t (by omega)))) (a0I (a1S rfl rfl rfl rfl))))⟩
  ·by_cases cl:kind=0\/kind=8\/kind=9\/(kind=1/\m=x)
   ·exact tl cl
   ·have nc:eAnd (eBin dEq (eVar 4) (eC (.int 1))) (eBin dNe (eVar 10) (eVar 7)) [some (.sh (.lst (ns.map D.int))),some (.sh (.int k)),some (.sh (a0N bs)),some (.sh (.int rest)),some (.sh (.int kind)),some (.sh (.int pick)),some (.sh (.int n)),some (.sh (.int x)),some (.sh (.int (szB bs x:Nat))),some (.sh ms),some (.sh (.int m)),none,none,none,none]=okB false:=a6Q (a0c rfl rfl (eq_f (by omega)))
    by_cases c2:kind=2
    ·exact ⟨.grow x n,⟨hx,hn⟩,a0b (if_f e56 rfl) (a0b (if_f nc rfl) (a0F (if_t (or_t (a0c rfl rfl (eq_t c2))) (a0I (a1S rfl rfl rfl rfl)))))⟩
    ·by_cases c3:kind=3
     ·by_cases c4:szB bs x=2
      ·exact ⟨.grow x n,⟨hx,hn⟩,a0b (if_f e56 rfl) (a0b (if_f nc rfl) (a0F (if_t (or_f (a0c rfl rfl (eq_f c2)) (a35 (a0c rfl rfl (eq_t c3)) (a0c rfl rfl (eq_t (by omega))))) (a0I (a1S rfl rfl rfl rfl)))))⟩
      ·exact ⟨.tick x,⟨hx,by omega⟩,a0b (if_f e56 rfl) (a0b (if_f nc rfl) (a0b (if_f (or_f (a0c rfl rfl (eq_f c2)) (a35 (a0c rfl rfl (eq_t c3)) (a0c rfl rfl (eq_f (by omega))))) rfl) (a0F (if_t (a0c rfl rfl (eq_t c3)) (a0I (a0S rfl rfl rfl))))))⟩
     ·by_cases c7:kind=7
      ·exact ⟨.non x,hx,a0b (if_f e56 rfl) (a0b (if_f nc rfl) (a0b (if_f (or_f (a0c rfl rfl (eq_f c2)) (a6Q (a0c rfl rfl (eq_f c3)))) rfl) (a0b (if_f (a0c rfl rfl (eq_f c3)) rfl) (a0F (if_t (or_t (a0c rfl rfl (eq_t c7))) (a0I (a0S rfl rfl rfl)))))))⟩
      ·by_cases c10:kind=10
       ·exact ⟨.non x,hx,a0b (if_f e56 rfl) (a0b (if_f nc rfl) (a0b (if_f (or_f (a0c rfl rfl (eq_f c2)) (a6Q (a0c rfl rfl (eq_f c3)))) rfl) (a0b (if_f (a0c rfl rfl (eq_f c3)) rfl) (a0F (if_t (or_f (a0c rfl rfl (eq_f c7)) (a0c rfl rfl (eq_t c10))) (a0I (a0S rfl rfl rfl)))))))⟩
       ·exfalso;omega
theorem lst_add {xs ys:List D} (h:xs.length+ys.length<=lim):dAdd (.lst xs) (.lst ys)=okL (xs++ys):=by show (if _ then _ else _)=_;exact if_pos h
theorem deed_ok {ns:List Int} {bs:List Bx} (hb:a2m bs) {k:Int} {rest:Nat} (hk0:0<=k) (hk1:k<=80000) (hr:1<=rest/\rest<=9):∃dd:Deed,dd.Ok bs/\a4D [.lst (ns.map D.int),.int k,a0N bs,.int rest]=okD dd.d:=by
 have m0:=a1G (ns:=ns) (k:=k) (by omega) (by omega)
 have m1:=a1G (ns:=ns) (k:=k+1) (by omega) (by omega)
 have m4:=a1G (ns:=ns) (k:=k+4) (by omega) (by omega)
 have n2:=a6x (ns:=ns) (k:=k+2) (by omega) (by omega)
 have l2:=a6w (ns:=ns) (k:=k+2) (by omega) (by omega)
 have b0:=a7l (ns:=ns) (k:=k)
 have b1:=a7l (ns:=ns) (k:=k+1)
 have h8:=hb.1
 have hlen:=a72 bs
 have still:eOr (eBin dEq (a0E (f1 dLen) [(eAny 2)]) (eC (.int 0))) (eBin dEq (eVar 4) (eC (.int 4))) [some (.sh (.lst (ns.map D.int))),some (.sh (.int k)),some (.sh (a0N bs)),some (.sh (.int rest)),some (.sh (.int (mixV ns k % 11))),some (.sh (.int (mixV ns (k+1)))),some (.sh (.int (numV ns (k+2)))),none,none,none,none,none,none,none,none]=okB true->
   ∃dd:Deed,dd.Ok bs/\a4D [.lst (ns.map D.int),.int k,a0N bs,.int rest]=okD dd.d:=fun h=>by
  obtain ⟨q,hq⟩:∃q:Nat,1+mixV ns (k+1) % (rest:Int)=q:=⟨(1+mixV ns (k+1) % (rest:Int)).toNat,by have:=emod_nonneg (mixV ns (k+1)) (b:=(rest:Int)) (by omega);omega⟩
  have hq2:=emod_lt_of_pos (mixV ns (k+1)) (b:=(rest:Int)) (by omega)
  have hq3:=emod_nonneg (mixV ns (k+1)) (b:=(rest:Int)) (by omega)
  refine ⟨.still q,⟨by omega,by omega⟩,a0x rfl (a0b (a0s (a0c (a0S rfl rfl m0) rfl (a0M (by decide)))) (a0b (a0s (a0S rfl (a0c rfl rfl rfl) m1)) (a0b (a0s (a0S rfl (a0c rfl rfl rfl) n2)) (a0F (if_t h (a0I (a0S (s2:=.sh (.int q)) rfl (a0c rfl (a0c rfl rfl (a0M (by omega))) ?_) rfl)))))))⟩
  rw [S.val_sh,S.val_sh,add_int,hq]
 by_cases e0:bs.length=0
 ·exact still (or_t (a0c (lenB rfl hlen) rfl (eq_t (by omega))))
 by_cases e4:mixV ns k % 11=4
 ·exact still (or_f (a0c (lenB rfl hlen) rfl (eq_f (by omega))) (a0c rfl rfl (eq_t e4)))
 have nst:eOr (eBin dEq (a0E (f1 dLen) [(eAny 2)]) (eC (.int 0))) (eBin dEq (eVar 4) (eC (.int 4))) [some (.sh (.lst (ns.map D.int))),some (.sh (.int k)),some (.sh (a0N bs)),some (.sh (.int rest)),some (.sh (.int (mixV ns k % 11))),some (.sh (.int (mixV ns (k+1)))),some (.sh (.int (numV ns (k+2)))),none,none,none,none,none,none,none,none]=okB false:=
  or_f (a0c (lenB rfl hlen) rfl (eq_f (by omega))) (a0c rfl rfl (eq_f e4))
 obtain ⟨x,hx⟩:∃x:Nat,mixV ns (k+1) % (bs.length:Int)=x:=⟨(mixV ns (k+1) % (bs.length:Int)).toNat,by have:=emod_nonneg (mixV ns (k+1)) (b:=(bs.length:Int)) (by omega);omega⟩
 have hxl:x<bs.length:=by have:=emod_lt_of_pos (mixV ns (k+1)) (b:=(bs.length:Int)) (by omega);omega
 have hmt:=mates_e (x:=x) (sz:=(szB bs x:Nat)) hb rfl (ρ:=[some (.sh (.lst (ns.map D.int))),some (.sh (.int k)),some (.sh (a0N bs)),some (.sh (.int rest)),some (.sh (.int (mixV ns k % 11))),some (.sh (.int (mixV ns (k+1)))),some (.sh (.int (numV ns (k+2)))),some (.sh (.int x)),some (.sh (.int (szB bs x:Nat))),none,none,none,none,none,none]) (js:=[13]) (i:=2) (j:=7) (s:=8) (v:=13) rfl rfl rfl rfl (by show 13<15;decide) (by decide) (by decide) (by decide) rfl
 obtain ⟨j,hj⟩:∃j:Nat,mixV ns (k+4) % (((a5J bs x).length:Int)+1)=j:=⟨(mixV ns (k+4) % (((a5J bs x).length:Int)+1)).toNat,by have:=emod_nonneg (mixV ns (k+4)) (b:=(((a5J bs x).length:Int)+1)) (by omega);omega⟩
 have hjl:j<(a5J bs x++[x]).length:=by have:=emod_lt_of_pos (mixV ns (k+4)) (b:=(((a5J bs x).length:Int)+1)) (by omega);rw [length_append,length_singleton];omega
 obtain ⟨m,hm⟩:∃m,m=(a5J bs x++[x])[j]:=⟨_,rfl⟩
 have hmm:m<bs.length/\szB bs m=szB bs x:=by
  have:m∈a5J bs x++[x]:=by rw [hm];exact getElem_mem hjl
  rcases mem_append.mp this with h|h
  ·have:=b6H.mp h;exact ⟨this.1,this.2.2⟩
  ·rw [mem_singleton.mp h];exact ⟨hxl,rfl⟩
 have hml:=b6I (bs:=bs) (x:=x)
 have hmlen:dLen (.lst ((a5J bs x).map intD))=okI ((a5J bs x).length:Int):=by rw [a4U,length_map]
 obtain ⟨dd,hd,he⟩:=b7e (ns:=ns) (rest:=rest) (ms:=.lst ((a5J bs x).map intD)) hb hk0 hk1 (kind:=mixV ns k % 11) ⟨by omega,by omega⟩ e4 b1 l2 hxl hmm.1 hmm.2
 refine ⟨dd,hd,a0x rfl (a0b (a0s (a0c (a0S rfl rfl m0) rfl (a0M (by decide)))) (a0b (a0s (a0S rfl (a0c rfl rfl rfl) m1)) (a0b (a0s (a0S rfl (a0c rfl rfl rfl) n2)) (a0b (if_f nst rfl) (a0b (a0s (s:=.sh (.int x)) (a0c rfl (lenB rfl hlen) ?_)) (a0b (a0s (a8V hxl rfl rfl)) (a0b (a0s hmt) (a1u (a0b (a0s (s:=.sh (.int m)) (a0c (a0c rfl (a0W rfl rfl) (lst_add ?_)) (a0c (a0S rfl (a0c rfl rfl rfl) m4) (a0c (lenB rfl hmlen) rfl rfl) (a0M (by omega))) ?_)) he)))))))))⟩
 ·rw [S.val_sh,S.val_sh,a0M (by omega),hx]
 ·rw [length_map];exact le_trans (by show _+1<=10;omega) (by decide)
 ·rw [S.val_sh,hj,hm]
  have:=ix_nat hjl
  rw [map_append] at this
  exact this
theorem shl1 {b:Nat} (hb:b<=100):dShl (.int 1) (.int (b:Int))=okI ((2 ^ b:Nat):Int):=by rw [shl_int (by omega) (by omega) (by decide),toNat_natCast,Int.one_mul,Int.natCast_pow];rfl
def rowIv (ns:List Int) (k:Int) (bs:List Bx) (bells longest rest q:Nat) (ρ:MEnv):Prop:=∃(ps:List Pl) (e7 e8 e9 e10:Option S),ps.length=q/\(∀p∈ps,PlOk bs bells p)/\
 ρ=[some (.sh (.lst (ns.map D.int))),some (.sh (.int k)),some (.sh (a0N bs)),some (.sh (.int bells)),some (.sh (.int longest)),some (.sh (.int rest)),some (.own (.lst (ps.map plD))),e7,e8,e9,e10]
theorem row_ok {ns:List Int} {bs:List Bx} (hb:a2m bs) {k:Int} {bells longest rest:Nat} (hk0:0<=k) (hk1:k<=70000) (hbl:bells<=6) (hlo:1<=longest/\longest<=12) (hr:1<=rest/\rest<=9):
  ∃ps:List Pl,a5l [.lst (ns.map D.int),.int k,a0N bs,.int bells,.int longest,.int rest]=okD (.tup (ps.map plD))/\1<=ps.length/\ps.length<=longest/\∀p∈ps,PlOk bs bells p:=by
 have m0:=a1G (ns:=ns) (k:=k) (by omega) (by omega)
 have b0:=a7l (ns:=ns) (k:=k)
 obtain ⟨many,hm⟩:∃many:Nat,1+mixV ns k % (longest:Int)=many:=⟨(1+mixV ns k % (longest:Int)).toNat,by have:=emod_nonneg (mixV ns k) (b:=(longest:Int)) (by omega);omega⟩
 have hm2:=emod_lt_of_pos (mixV ns k) (b:=(longest:Int)) (by omega)
 have hm3:=emod_nonneg (mixV ns k) (b:=(longest:Int)) (by omega)
 have h2b:=Nat.two_pow_pos bells
 obtain ⟨ρ',e,ps,e7,e8,e9,e10,hl,hp,rfl⟩:=a7d (bd:=a1v 7) (body:=a8h) (ρ:=[some (.sh (.lst (ns.map D.int))),some (.sh (.int k)),some (.sh (a0N bs)),some (.sh (.int bells)),some (.sh (.int longest)),some (.sh (.int rest)),some (.own (.lst [])),none,none,none,none]) (rowIv ns k bs bells longest rest) many
  ⟨[],none,none,none,none,rfl,fun _ h=>(nomatch h),rfl⟩ (by
  rintro p ρ hp ⟨ps,e7,e8,e9,e10,hl,hps,rfl⟩
  have m7:=a1G (ns:=ns) (k:=k+3+8 * (p:Int)+7) (by omega) (by omega)
  have b7:=a7l (ns:=ns) (k:=k+3+8 * (p:Int)+7)
  obtain ⟨dd,hd,he⟩:=deed_ok (ns:=ns) hb (k:=k+3+8 * (p:Int)) (rest:=rest) (by omega) (by omega) hr
  have fin:∀wd:Nat,wd<2 ^ (bells+1)->wd % 2=0->∃ρ2,a6N [some (.sh (.lst (ns.map D.int))),some (.sh (.int k)),some (.sh (a0N bs)),some (.sh (.int bells)),some (.sh (.int longest)),some (.sh (.int rest)),some (.own (.lst (ps.map plD))),some (.sh (.int p)),some (.sh (.int (k+3+8 * (p:Int)))),some (.sh (.int wd)),some (.sh (.int (mixV ns (k+3+8 * (p:Int)+7))))]=some (.next ρ2)/\rowIv ns k bs bells longest rest (p+1) ρ2:=fun wd h1 h2=>by
   refine ⟨_,a5I rfl (tup2 (a7e rfl rfl rfl rfl he) rfl) ?_,ps++[(dd,wd)],some (.sh (.int p)),some (.sh (.int (k+3+8 * (p:Int)))),some (.sh (.int wd)),some (.sh (.int (mixV ns (k+3+8 * (p:Int)+7)))),by simp [hl],?_,?_⟩
   ·rw [length_map,hl];exact lt_of_lt_of_le (by omega:p<13) (by decide)
   ·intro q hq
    rcases mem_append.mp hq with h|h
    ·exact hps q h
    ·rw [mem_singleton.mp h];exact ⟨hd,h1,h2⟩
   ·rw [map_append];rfl
  have hs1:(sSet 8 (eBin dAdd (eBin dAdd (eVar 1) (eC (.int 3))) (eBin dMul (eC (.int 8)) (eVar 7)))) [some (.sh (.lst (ns.map D.int))),some (.sh (.int k)),some (.sh (a0N bs)),some (.sh (.int bells)),some (.sh (.int longest)),some (.sh (.int rest)),some (.own (.lst (ps.map plD))),some (.sh (.int p)),e8,e9,e10]
    = some (.next [some (.sh (.lst (ns.map D.int))),some (.sh (.int k)),some (.sh (a0N bs)),some (.sh (.int bells)),some (.sh (.int longest)),some (.sh (.int rest)),some (.own (.lst (ps.map plD))),some (.sh (.int p)),some (.sh (.int (k+3+8 * (p:Int)))),e9,e10]):=by simp (disch:=omega) only [sSet,a20,eVar,getElem?_cons_succ,getElem?_cons_zero,okD,eC,bindV_ok,S.val_sh,add_int,okI,mulL,set_cons_succ,set_cons_zero,bindO_ok]
  rcases mix2 (ns:=ns) (k:=k+3+8 * (p:Int)+7) with c|c
  ·obtain ⟨ρ2,h1,h2⟩:=fin 0 (Nat.two_pow_pos _) rfl
   exact ⟨_,ρ2,rfl,a0b hs1 (a0b (a0s rfl) (a0b (a0s (a0S rfl (a0c rfl rfl rfl) m7)) (a0b (if_f (a0c (a0c rfl rfl (a0M (by decide))) rfl (eq_f (by omega))) rfl) h1))),h2⟩
  ·obtain ⟨wd,hw⟩:∃wd:Nat,mixV ns (k+3+8 * (p:Int)+7) / 2 % ((2 ^ bells:Nat):Int)=wd:=⟨(mixV ns (k+3+8 * (p:Int)+7) / 2 % ((2 ^ bells:Nat):Int)).toNat,by have:=emod_nonneg (mixV ns (k+3+8 * (p:Int)+7) / 2) (b:=((2 ^ bells:Nat):Int)) (by omega);omega⟩
   have hwl:wd<2 ^ bells:=by have:=emod_lt_of_pos (mixV ns (k+3+8 * (p:Int)+7) / 2) (b:=((2 ^ bells:Nat):Int)) (by omega);omega
   obtain ⟨ρ2,h1,h2⟩:=fin (2 * wd) (by rw [Nat.pow_succ];omega) (by omega)
   refine ⟨_,ρ2,rfl,a0b hs1 (a0b (a0s rfl) (a0b (a0s (a0S rfl (a0c rfl rfl rfl) m7)) (a0b (if_t (a0c (a0c rfl rfl (a0M (by decide))) rfl (eq_t c)) (a0s (s:=.sh (.int (2 * wd:Nat))) (a0c rfl (a0c (a0c rfl rfl (a4f (by decide) (by decide))) (a0c rfl rfl (shl1 (by omega))) (a0M (by omega))) ?_))) h1))),h2⟩
   rw [S.val_sh,S.val_sh,hw,mulL (by decide) (by decide)]
   rfl)
 refine ⟨ps,a0x rfl (a0b (a0s rfl) (a0b (b48 (a2t (i:=many) (a0c rfl (a0c (a0S rfl rfl m0) rfl (a0M (by omega))) ?_) (a1r (by omega))) e) (a1u (a0I (a0W rfl rfl))))),by omega,by omega,hp⟩
 rw [S.val_sh,S.val_sh,add_int,hm]
theorem letter6 {k:Nat} (h:k<6):∃c,dIx (.str (Str.ofString "pqrstu")) (.int k)=okD (.str ⟨#[c]⟩):=by
 have hk:k=0\/k=1\/k=2\/k=3\/k=4\/k=5:=by omega
 rcases hk with rfl|rfl|rfl|rfl|rfl|rfl <;> exact ⟨_,rfl⟩
def progIv (ns:List Int) (bs:List Bx) (bells longest rest q:Nat) (ρ:MEnv):Prop:=∃(rs:List Rw) (e6 e7 e8:Option S),rs.length=q+1/\(∀r∈rs,RwOk bs bells longest r)/\(rs.getD 0 ⟨Str.empty,1,[]⟩).rk=0/\(∀k r,rs[k]?=some r->k≠0->1<=r.rk/\r.rk<=9)/\
 ρ=[some (.sh (.lst (ns.map D.int))),some (.sh (.int bells)),some (.sh (.int longest)),some (.sh (.int rest)),some (.sh (a0N bs)),some (.own (.lst (rs.map Rw.d))),e6,e7,e8]
theorem b4w (ns:List Int) {bells longest rest:Nat} (hbl:bells<=6) (hlo:1<=longest/\longest<=12) (hr:1<=rest/\rest<=9):
  ∃(bs:List Bx) (rs:List Rw),a3G [.lst (ns.map D.int),.int bells,.int longest,.int rest]=okD (a1o bs rs)/\ProgOk bs rs bells longest:=by
 obtain ⟨bs,hbe,hb⟩:=boxes_ok ns
 obtain ⟨p0,hp0,l1,l2,ok0⟩:=row_ok (ns:=ns) hb (k:=20) (bells:=bells) (longest:=longest) (rest:=rest) (by decide) (by decide) hbl hlo hr
 obtain ⟨ρ',e,rs,e6,e7,e8,hl,hrs,hmain,hrank,rfl⟩:=a7d (bd:=a1v 6) (body:=a5n) (ρ:=[some (.sh (.lst (ns.map D.int))),some (.sh (.int bells)),some (.sh (.int longest)),some (.sh (.int rest)),some (.sh (a0N bs)),some (.own (.lst ([⟨Str.ofString "main",0,p0⟩].map Rw.d))),none,none,none]) (progIv ns bs bells longest rest) bells
  ⟨[⟨Str.ofString "main",0,p0⟩],none,none,none,rfl,by intro r h;rw [mem_singleton.mp h];exact ⟨l1,l2,ok0⟩,rfl,by intro k r h hk;cases k with
   | zero=>exact absurd rfl hk
   | succ k=>simp at h,rfl⟩ (by
  rintro b ρ hbk ⟨rs,e6,e7,e8,hl,hrs,hmain,hrank,rfl⟩
  obtain ⟨at',hat⟩:∃a:Int,a=20+(3+8 * (longest:Int)) * ((b:Int)+1):=⟨_,rfl⟩
  have ha:0<=at'/\at'<=1000:=by
   have h1:0<=(3+8 * (longest:Int)) * ((b:Int)+1):=Int.mul_nonneg (by omega) (by omega)
   have h2:(3+8 * (longest:Int)) * ((b:Int)+1)<=99 * ((b:Int)+1):=Int.mul_le_mul_of_nonneg_right (by omega) (by omega)
   omega
  have m1:=a1G (ns:=ns) (k:=at'+1) (by omega) (by omega)
  have m2:=a1G (ns:=ns) (k:=at'+2) (by omega) (by omega)
  have b1:=a7l (ns:=ns) (k:=at'+1)
  obtain ⟨ps,hpe,q1,q2,okp⟩:=row_ok (ns:=ns) hb (k:=at') (bells:=bells) (longest:=longest) (rest:=rest) (by omega) (by omega) hbl hlo hr
  obtain ⟨c,hc⟩:=letter6 (k:=b) (by omega)
  obtain ⟨rk,hrk,r1,r9⟩:∃rk:Nat,eBin dAdd (eC (.int 1)) (eBin dMod (a0v a0y [(eVar 0),(eBin dAdd (eVar 7) (eC (.int 1)))]) (eBin dIx (eLst [(eC (.int 3)),(eC (.int 9))]) (eBin dMod (a0v a0y [(eVar 0),(eBin dAdd (eVar 7) (eC (.int 2)))]) (eC (.int 2))))) [some (.sh (.lst (ns.map D.int))),some (.sh (.int bells)),some (.sh (.int longest)),some (.sh (.int rest)),some (.sh (a0N bs)),some (.own (.lst (rs.map Rw.d))),some (.sh (.int b)),some (.sh (.int at')),e8]=okI (rk:Int)/\1<=rk/\rk<=9:=by
   rcases mix2 (ns:=ns) (k:=at'+2) with h|h
   ·refine ⟨(1+mixV ns (at'+1) % 3).toNat,?_,by omega,by omega⟩
    rw [show ((1+mixV ns (at'+1) % 3).toNat:Int)=1+mixV ns (at'+1) % 3 by omega]
    simp (disch:=omega) only [eLst,a53,okL,a20,eC,okD,a0v,a0X,eVar,getElem?_cons_zero,getElem?_cons_succ,bindV_ok,S.val_sh,add_int,okI,m1,length_cons,length_nil,reduceAdd,reduceLeDiff,ite_true,m2,a0M,h,S.val_own,O.val_lst,b1Z]
   ·refine ⟨(1+mixV ns (at'+1) % 9).toNat,?_,by omega,by omega⟩
    rw [show ((1+mixV ns (at'+1) % 9).toNat:Int)=1+mixV ns (at'+1) % 9 by omega]
    simp (disch:=omega) only [eLst,a53,okL,a20,eC,okD,a0v,a0X,eVar,getElem?_cons_zero,getElem?_cons_succ,bindV_ok,S.val_sh,add_int,okI,m1,length_cons,length_nil,reduceAdd,reduceLeDiff,ite_true,m2,a0M,h,S.val_own,O.val_lst,b40]
  have hmul:dMul (.int (3+8 * (longest:Int))) (.int ((b:Int)+1))=okI ((3+8 * (longest:Int)) * ((b:Int)+1)):=mulL (by omega) (by omega)
  refine ⟨_,_,rfl,a0b (a0s (s:=.sh (.int at')) (a0c rfl (a0c (a0c rfl (a0c rfl rfl (mulL (by decide) (by decide))) rfl) (a0c rfl rfl rfl) hmul) ?_)) (a0b (a0s hrk) (a5I rfl (a1S (a0c rfl rfl hc) rfl (call6 rfl rfl rfl rfl rfl rfl hpe) rfl) ?_)),rs++[⟨Str.mk #[c],rk,ps⟩],some (.sh (.int b)),some (.sh (.int at')),some (.sh (.int rk)),by simp [hl],?_,?_,?_,?_⟩
  ·rw [S.val_sh,S.val_sh,add_int,hat]
  ·rw [length_map,hl];exact lt_of_lt_of_le (by omega:b+1<8) (by decide)
  ·intro r hr'
   rcases mem_append.mp hr' with h|h
   ·exact hrs r h
   ·rw [mem_singleton.mp h];exact ⟨q1,q2,okp⟩
  ·rw [getD_eq_getElem?_getD,getElem?_append_left (by omega),←getD_eq_getElem?_getD];exact hmain
  ·intro k r h hk
   by_cases hkl:k<rs.length
   ·rw [getElem?_append_left hkl] at h;exact hrank k r h hk
   ·rw [getElem?_append_right (by omega)] at h
    have:k - rs.length=0:=by
     by_cases z:k - rs.length=0
     ·exact z
     ·rw [getElem?_eq_none (by simp;omega)] at h;cases h
    rw [this] at h
    cases h
    exact ⟨r1,r9⟩
  ·rw [map_append];rfl)
 refine ⟨bs,rs,a0x rfl (a0b (a0s (a0W rfl hbe)) (a0b (a0s (a0W (a1S rfl rfl (call6 rfl rfl rfl rfl rfl rfl hp0) rfl) rfl)) (a0b (b48 (a2t rfl (a1r (by omega))) e) (a1u (a0I (tup2 (s1:=.sh (a0N bs)) (s2:=.sh (.tup (rs.map Rw.d))) rfl (a0W rfl rfl))))))),⟨hb,hl,hrs,hmain,hrank⟩⟩
inductive Pn:Nat->D->Prop
 | non (n):Pn n .non
 | int (n i):Pn n (.int i)
 | str (n x):Pn n (.str x)
 | tup (n ds):(∀d∈ds,Pn n d)->ds.length<=lim->Pn (n+1) (.tup ds)
 | lst (n ds):(∀d∈ds,Pn n d)->ds.length<=lim->Pn (n+1) (.lst ds)
theorem Pn.mono:∀{n m:Nat} {d:D},Pn n d->n<=m->Pn m d:=by
 intro n m d h
 induction h generalizing m with
 | non n=>exact fun _=>.non m
 | int n i=>exact fun _=>.int m i
 | str n x=>exact fun _=>.str m x
 | tup n ds hd hl ih=>
  intro hm
  obtain ⟨k,rfl⟩:∃k,m=k+1:=⟨m - 1,by omega⟩
  exact .tup k ds (fun d hd=>ih d hd (by omega)) hl
 | lst n ds hd hl ih=>
  intro hm
  obtain ⟨k,rfl⟩:∃k,m=k+1:=⟨m - 1,by omega⟩
  exact .lst k ds (fun d hd=>ih d hd (by omega)) hl
def b2i (n:Nat):List D->Option R:=Nat.rec (motive:=fun _=>List D->Option R) (fun _=>none) (fun _ G=>fnD 2 3 (a52 G)) n
theorem a36 (n:Nat):b2i (n+1)=fnD 2 3 (a52 (b2i n)):=rfl
theorem ix_mk {mk:List D->D} (hmk:mk=D.tup\/mk=D.lst) {ds:List D} {k:Nat} {d:D} (h:ds[k]?=some d):dIx (mk ds) (.int k)=okD d:=by
 rcases hmk with rfl|rfl
 ·exact ix_tup h
 ·exact a4d h
theorem blsAll {α:Type} (xs:List α):dAll (.lst (xs.map fun _=>D.bl true))=okB true:=by
 have h:∀l:List α,blsOf (l.map fun _=>D.bl true)=some (l.map fun _=>true):=fun l=>by
  induction l with
  | nil=>rfl
  | cons a l ih=>rw [map_cons,map_cons];unfold blsOf;rw [ih];rfl
 show (blsOf (xs.map fun _=>D.bl true)).bind (fun bs=>okB (bs.all id))=_
 rw [h]
 simp
theorem b2h (G:List D->Option R) (ds:List D) (mk:List D->D) (hmk:mk=D.tup\/mk=D.lst) (hl:ds.length<=lim) (h:∀d∈ds,G [d,d]=okB true) (e2:Option S):
  a0v (f1 dAll) [a1R [2] (a05 (a0E (f1 dLen) [eAny 1])) (a1v 2) a22 (a0v G [(eBin dIx (eVar 0) (eVar 2)),(eBin dIx (eVar 1) (eVar 2))])] [some (.sh (mk ds)),some (.sh (mk ds)),e2]=okB true:=by
 have hlen:dLen (mk ds)=okI (ds.length:Int):=by rcases hmk with rfl|rfl <;> rfl
 refine a0W (a3q (List.range ds.length) (fun k:Nat=>D.int k) (fun _=>.bl true) ?_ (by rw [length_range];exact hl) fun k hk=>?_) (blsAll _)
 ·rw [←rng0]
  exact a2t (lenB rfl hlen) (a1r (le_trans hl (by decide)))
 ·have hk':=mem_range.mp hk
  have e:=getElem?_eq_getElem hk'
  exact ⟨_,rfl,_,a0S (a0c rfl rfl (ix_mk hmk e)) (a0c rfl rfl (ix_mk hmk e)) (h _ (getElem_mem hk')),rfl⟩
theorem b5p:∀(n:Nat) (d:D),Pn n d->b2i (n+1) [d,d]=okB true:=by
 intro n d h
 induction h with
 | non n=>rw [a36];rfl
 | int n i=>
  rw [a36]
  exact a0x rfl (a0b (if_f rfl rfl) (a0b (if_f rfl rfl) (a0b (if_f rfl rfl) (a0I (a35 rfl (a35 rfl (a0c rfl rfl (b3d i))))))))
 | str n x=>
  rw [a36]
  exact a0x rfl (a0b (if_f rfl rfl) (a0b (if_f rfl rfl) (a0F (if_t rfl (a0I (a35 rfl (a0c rfl rfl (a8b x))))))))
 | tup n ds hd hl ih=>
  rw [a36]
  exact a0x rfl (a0F (if_t rfl (a0b (if_f rfl rfl) (a0b (if_f rfl rfl) (a0b (if_f (a0c rfl rfl (ne_f rfl)) rfl) (a0I (b2h (b2i (n+1)) ds D.tup (.inl rfl) hl ih none)))))))
 | lst n ds hd hl ih=>
  rw [a36]
  exact a0x rfl (a0F (if_t rfl (a0b (if_f rfl rfl) (a0b (if_f rfl rfl) (a0b (if_f (a0c rfl rfl (ne_f rfl)) rfl) (a0I (b2h (b2i (n+1)) ds D.lst (.inr rfl) hl ih none)))))))
theorem b5o {n:Nat} {d:D} (h:Pn n d) (hn:n<=7):a4S [d,d]=okB true:=b5p 7 d (h.mono hn)
def fstB (bs:List Bx) (x:Nat):Nat:=((List.range x).map (szB bs)).sum
def totB (bs:List Bx):Nat:=fstB bs bs.length
theorem b0r (bs:List Bx) (x:Nat):fstB bs (x+1)=fstB bs x+szB bs x:=by
 unfold fstB;rw [List.range_succ,map_append,List.sum_append];simp
theorem b3V {bs:List Bx}:∀{x y:Nat},x<=y->fstB bs x<=fstB bs y
 | x,0,h=>by rw [Nat.le_zero.mp h];exact le_refl _
 | x,y+1,h=>by
  by_cases e:x=y+1
  ·rw [e];exact le_refl _
  ·rw [b0r];have:=b3V (bs:=bs) (x:=x) (y:=y) (by omega);omega
theorem fst_lt {bs:List Bx} {x y:Nat} (h:x<y):fstB bs x+szB bs x<=fstB bs y:=by rw [←b0r];exact b3V h
theorem a1O {bs:List Bx} {x:Nat} (h:x<bs.length):fstB bs x+szB bs x<=totB bs:=fst_lt h
theorem b7a {bs:List Bx} (hb:a2m bs):∀{x:Nat},x<=bs.length->fstB bs x<=2 * x
 | 0,_=>le_refl _
 | x+1,h=>by
  rw [b0r]
  have:=b7a hb (x:=x) (by omega)
  rcases a2z hb (x:=x) (by omega) with e|e <;> omega
theorem b3p {bs:List Bx} (hb:a2m bs):totB bs<=16:=by
 have:=b7a hb (le_refl bs.length);have:=hb.1;unfold totB;omega
def a0u (bs:List Bx) (x:Nat):List Nat:=(List.range (szB bs x)).map fun k=>fstB bs x+k
theorem sum_nat (l:List Nat):(l.map fun n:Nat=>(n:Int)).sum=((l.sum:Nat):Int):=by
 induction l with
 | nil=>rfl
 | cons n l ih=>rw [map_cons,List.sum_cons,List.sum_cons,ih];omega
theorem b33 (l:List Nat):dSum (.lst (l.map intD))=okI ((l.sum:Nat):Int):=by
 have:l.map intD=(l.map fun n:Nat=>(n:Int)).map D.int:=by rw [map_map];rfl
 rw [this]
 show (intsOf _).bind _=_
 rw [b3S]
 show okI _=_
 rw [sum_nat]
theorem b0y {bs:List Bx} {x c:Nat} (h:x<bs.length) (hc:c∈a0u bs x):c<totB bs:=by
 unfold a0u at hc
 obtain ⟨k,hk,rfl⟩:=mem_map.mp hc
 have:=mem_range.mp hk
 have:=a1O h
 omega
theorem a0z (bs:List Bx) (x:Nat):(a0u bs x).length=szB bs x:=by unfold a0u;rw [length_map,length_range]
theorem clen {bs:List Bx} (hb:a2m bs) {x:Nat} (h:x<bs.length):(a0u bs x).length<=2:=by rw [a0z];rcases a2z hb h with e|e <;> omega
theorem b35 {bs:List Bx} (hb:a2m bs) {x:Nat} (h:x<bs.length):(a0u bs x)[0]?=some (fstB bs x):=by
 unfold a0u
 rw [getElem?_map,getElem?_range (by rcases a2z hb h with e|e <;> omega)]
 rfl
theorem a6K {bs:List Bx} {x k:Nat} (h:k<szB bs x):(a0u bs x)[k]?=some (fstB bs x+k):=by
 unfold a0u
 rw [getElem?_map,getElem?_range h]
 rfl
theorem a4K {bs:List Bx} {x k:Nat} (h:k<szB bs x):dIx (.lst ((a0u bs x).map intD)) (.int k)=okI (fstB bs x+k:Nat):=a4d (by rw [getElem?_map,a6K h];rfl)
theorem a2Y {vs:List Int} {c:Nat} (h:c<vs.length):dIx (.tup (vs.map D.int)) (.int c)=okI (vs.getD c 0):=ix_tup (by rw [getElem?_map,getElem?_eq_getElem h,getD_eq_getElem?_getD,getElem?_eq_getElem h];rfl)
theorem a8U {bs:List Bx} {x:Nat} (h:x<bs.length):a4C [a0N bs,.int x]=okI (szB bs x:Nat):=a0x rfl (a0I (a8V h rfl rfl))
theorem a1a {bs:List Bx} (hb:a2m bs) {x:Nat} (h:x<bs.length):a3P [a0N bs,.int x]=okL ((a0u bs x).map intD):=by
 have h8:=hb.1
 have ht:=b3p hb
 have hf:=a1O h
 have hc:a1R [3] (a05 (eVar 1)) (a1v 3) a22 (a0v a4C [(eVar 0),(eVar 3)]) [some (.sh (a0N bs)),some (.sh (.int x)),none,none]=okL ((List.range x).map fun k=>intD (szB bs k)):=
  a3q (List.range x) intD _ (by rw [←rng0];exact a2t rfl (a1r (by omega))) (by rw [length_range];exact le_trans (by omega:x<=8) (by decide)) fun k hk=>⟨_,rfl,_,a0S rfl rfl (a8U (by have:=mem_range.mp hk;omega)),rfl⟩
 have hs:dSum (.lst ((List.range x).map fun k=>intD (szB bs k)))=okI (fstB bs x:Nat):=by
  have:((List.range x).map fun k=>intD (szB bs k))=((List.range x).map (szB bs)).map intD:=by rw [map_map];rfl
  rw [this,b33];rfl
 have hr:a6H (.int (fstB bs x:Nat)) (.int ((fstB bs x:Nat)+(szB bs x:Nat):Int))=okL ((a0u bs x).map intD):=by
  rw [b6a (by exact a1r (by omega)) (by exact a1r (n:=fstB bs x+szB bs x) (by omega)) (le_trans (by omega:_<=16) (by decide))]
  have e:=rngN (fstB bs x) (fstB bs x+szB bs x)
  rw [Nat.add_sub_cancel_left] at e
  show okL (rng (fstB bs x:Nat) (((fstB bs x+szB bs x:Nat):Int)))=_
  rw [e]
  unfold a0u
  rw [map_map]
  rfl
 exact a0x rfl (a0b (a0s (a0W hc hs)) (a0I (a0c rfl (a0c rfl (a0S rfl rfl (a8U h)) rfl) hr)))
abbrev Stp:=List Nat×List Nat
def a4F (p:Stp):D:=.tup [.tup (p.1.map intD),.tup (p.2.map intD)]
def srt (bs:List Bx) (x y:Nat):List Nat:=(a7L ((a0u bs x++a0u bs y).map fun n:Nat=>(n:Int))).map Int.toNat
def a2h (bs:List Bx):Deed->List Stp
 | .put x _=>(a0u bs x).map fun c=>([],[c])
 | .copy x y=>(List.range (szB bs x)).map fun k=>([fstB bs y+k],[fstB bs x+k])
 | .grow x _=>((a0u bs x).map fun c=>([c],[]))++(a0u bs x).map fun c=>([],[c])
 | .tick x=>[([fstB bs x],[fstB bs x])]
 | .still n=>replicate n ([],[])
 | .iz x y _=>[(srt bs x y,[])]
 | .most x y _=>[(srt bs x y,[])]
 | .non _=>[([],[])]
 | .anew x y t=>(([fstB bs t]++a0u bs y++[fstB bs t]).map fun c=>([c],[]))++(a0u bs x).map fun c=>([],[c])
abbrev planS:Str:=Str.ofString "plan"
def planD (bs:List Bx) (dd:Deed):D:=.lst ((a2h bs dd).map a4F)
def clsOf:Deed->String
 | .put _ _ => "Put" | .copy _ _ => "Copy" | .grow _ _ => "Grow" | .tick _ => "Tick" | .still _ => "Still" | .iz _ _ _ => "Comparing" | .most _ _ _ => "Comparing" | .non _ => "Untouched" | .anew _ _ _ => "Anew"
def b2N:Deed->List Str
 | .put _ _=>[Str.ofString "numbers"]|.grow _ _=>[Str.ofString "size",Str.ofString "number"]|.anew _ _ _=>[Str.ofString "check"]|_=>[]
def fldsOf (bs:List Bx):Deed->List D
 | .put _ ns=>[.tup (ns.map D.int)]|.grow x n=>[.int (szB bs x:Nat),.int n]|.anew _ y _=>[.int ((szB bs y:Nat)+1:Int)]|_=>[]
def objOf (bs:List Bx) (dd:Deed):O:=.obj (clsOf dd) (planS::b2N dd) (planD bs dd::fldsOf bs dd)
abbrev DC:List String:=["Deed","Promise","Comparing","Untouched","Still","Put","Copy","Tick","Handed","Grow","Anew"]
theorem cls_in (dd:Deed):DC.contains (clsOf dd)=true:=by cases dd <;> rfl
theorem a5D {c:String} (hc:DC.contains c=true) (p:D):a4e (.obj c [] []) [p]=some (.obj c [planS] [p]):=a7s rfl (seqI (b01 rfl hc rfl (by decide)) rfl)
theorem comp_r {A:List Nat} (hA:A.length<=100) {ρ:MEnv} {js:List Nat} {it:MI} {v:Nat} (hi:it ρ=some (.ok (A.map intD))) (hv:v<(a1c js ρ).length):a1R js it (a1v v) a22 (eTup [(eTup [(eVar v)]),(eTup [])]) ρ=okL ((A.map fun c=>(([c],[]):Stp)).map a4F):=by
 rw [map_map]
 exact a3q A intD _ hi (le_trans hA (by decide)) fun b _=>⟨_,rfl,_,tup2 (a0W (a02 (getElem?_set_self hv)) rfl) rfl,rfl⟩
theorem comp_w {A:List Nat} (hA:A.length<=100) {ρ:MEnv} {js:List Nat} {it:MI} {v:Nat} (hi:it ρ=some (.ok (A.map intD))) (hv:v<(a1c js ρ).length):a1R js it (a1v v) a22 (eTup [(eTup []),(eTup [(eVar v)])]) ρ=okL ((A.map fun c=>(([],[c]):Stp)).map a4F):=by
 rw [map_map]
 exact a3q A intD _ hi (le_trans hA (by decide)) fun b _=>⟨_,rfl,_,tup2 rfl (a0W (a02 (getElem?_set_self hv)) rfl),rfl⟩
theorem a85 {c:String} (hc:DC.contains c=true) {A B:List Nat} (hA:A.length<=100) (hB:B.length<=100):a5C (.obj c [] []) [.lst (A.map intD),.lst (B.map intD)]=some (.obj c [planS] [.lst (((A.map fun c=>(([c],[]):Stp))++B.map fun c=>(([],[c]):Stp)).map a4F)]):=by
 refine a7s rfl (seqI (b0C (s1:=.own (.lst (((A.map fun c=>(([c],[]):Stp))++B.map fun c=>(([],[c]):Stp)).map a4F))) (a0c (comp_r hA (a75 rfl rfl) (by show 3<4;decide)) (comp_w hB (a75 rfl rfl) (by show 3<4;decide)) ?_) (a5D hc _)) rfl)
 show dAdd (.lst _) (.lst _)=_
 rw [a8N (by rw [length_map,length_map,length_map,length_map];omega),map_append]
theorem a55 {c:String} (hc:DC.contains c=true) {A:List Nat}:a4B (.obj c [] []) [.lst (A.map intD)]=some (.obj c [planS] [.lst ([((A,[]):Stp)].map a4F)]):=
 a7s rfl (seqI (b0C (a0W (tup2 (a0W rfl rfl) rfl) rfl) (a5D hc _)) rfl)
theorem insD_mem {k m:Int}:∀{l:List Int},m∈insD k l->m=k\/m∈l
 | [],h=>by simp [insD] at h;exact .inl h
 | x::r,h=>by
  unfold insD at h
  split at h
  ·rcases mem_cons.mp h with h|h
   ·exact .inl h
   ·exact .inr h
  ·split at h
   ·exact .inr h
   ·rcases mem_cons.mp h with h|h
    ·exact .inr (by rw [h];exact mem_cons_self)
    ·rcases insD_mem h with h|h
     ·exact .inl h
     ·exact .inr (mem_cons_of_mem _ h)
theorem sortD_mem {m:Int}:∀{l:List Int},m∈a7L l->m∈l
 | [],h=>h
 | x::r,h=>by
  rcases insD_mem (show m∈insD x (a7L r) from h) with h|h
  ·rw [h];exact mem_cons_self
  ·exact mem_cons_of_mem _ (sortD_mem h)
theorem b5R {bs:List Bx} (hb:a2m bs) {x y:Nat} (hx:x<bs.length) (hy:y<bs.length):b0v (.lst ((a0u bs x).map intD++(a0u bs y).map intD))=okL ((srt bs x y).map intD):=by
 have e:(a0u bs x).map intD++(a0u bs y).map intD=((a0u bs x++a0u bs y).map fun n:Nat=>(n:Int)).map D.int:=by
  rw [←map_append,map_map];rfl
 rw [e]
 show (intsOf _).bind _=_
 rw [b3S]
 show (if fewD _=true then _ else none)=_
 have few:fewD ((a0u bs x++a0u bs y).map fun n:Nat=>(n:Int))=true:=by
  unfold fewD
  rw [and_eq_true]
  constructor
  ·have h1:=a2z hb hx;have h2:=a2z hb hy
   rw [decide_eq_true_iff,length_map,length_append,a0z,a0z];omega
  ·rw [all_eq_true]
   intro n hn
   obtain ⟨c,hc,rfl⟩:=mem_map.mp hn
   have ht:=b3p hb
   have:c<totB bs:=by
    rcases mem_append.mp hc with h|h
    ·exact b0y hx h
    ·exact b0y hy h
   simp
   omega
 rw [if_pos few]
 unfold srt
 rw [map_map]
 refine congrArg okL (List.map_congr_left fun n hn=>?_)
 obtain ⟨c,hc,rfl⟩:=mem_map.mp (sortD_mem hn)
 rfl
theorem b5f {bs:List Bx} (hb:a2m bs) {dd:Deed} (ok:dd.Ok bs):a6C [a0N bs,dd.d]=some (.ok (.own (objOf bs dd))):=by
 cases dd with
 | still n=>
  have hn:n<=9:=ok.2
  refine a0x rfl (a0b (a0s (a0c rfl rfl a1g)) (a0F (if_t (a0c rfl rfl (a33 rfl)) (a0I (make1 (a0c rfl rfl a1I) (a7s rfl (seqI (b0C (rep_e (ds:=[a4F ([],[])]) (k:=(n:Int)) rfl rfl ⟨by omega,by omega,?_⟩) (a5D rfl _)) ?_)))))))
  ·rw [toNat_natCast,length_singleton];exact le_trans (by omega:1 * n<=9) (by decide)
  ·show some (O.obj "Still" [planS] [.lst (replicate (n:Int).toNat [a4F ([],[])]).flatten])=some (O.obj "Still" [planS] [.lst ((replicate n (([],[]):Stp)).map a4F)])
   rw [toNat_natCast,List.map_replicate]
   congr 5
   induction n with
   | zero=>rfl
   | succ n ih=>rw [replicate_succ,replicate_succ,flatten_cons];exact congrArg _ (by
     clear ih ok hn
     induction n with
     | zero=>rfl
     | succ n ih=>rw [replicate_succ,replicate_succ,flatten_cons,ih];rfl)
 | non x=>
  exact a0x rfl (a0b (a0s (a0c rfl rfl a1g)) (a0b (if_f (a0c rfl rfl (a0A (by decide))) rfl) (a0F (if_t (a0c rfl rfl (a33 rfl)) (a0I (make0 (a7s rfl (seqI (b0C rfl (a55 (A:=[]) rfl)) rfl))))))))
 | put x ns=>
  have hx:x<bs.length:=ok.1
  have hc:=a1a hb hx
  have h2:=clen hb hx
  exact a0x rfl (a0b (a0s (a0c rfl rfl a1g)) (a0b (if_f (a0c rfl rfl (a0A (by decide))) rfl) (a0b (if_f (a0c rfl rfl (a0A (by decide))) rfl) (a0b (a0s (a0S rfl (a0c rfl rfl a1I) hc)) (a0F (if_t (a0c rfl rfl (a33 rfl)) (a1u (a0I (b6K rfl (a0c rfl rfl a48)
   (a7s rfl (seqI (b0C (comp_w (by omega) (a75 rfl rfl) (by show 3<4;decide)) (a5D rfl _)) (seqI (b01 (a0W rfl rfl) rfl rfl (by decide)) rfl))))))))))))
 | grow x n=>
  have hx:x<bs.length:=ok.1
  have hc:=a1a hb hx
  have h2:=clen hb hx
  have hl:dLen (.lst ((a0u bs x).map intD))=okI (szB bs x:Nat):=by rw [a4U,length_map,a0z]
  exact a0x rfl (a0b (a0s (a0c rfl rfl a1g)) (a0b (if_f (a0c rfl rfl (a0A (by decide))) rfl) (a0b (if_f (a0c rfl rfl (a0A (by decide))) rfl) (a0b (a0s (a0S rfl (a0c rfl rfl a1I) hc)) (a0b (if_f (a0c rfl rfl (a0A (by decide))) rfl) (a0F (if_t (a0c rfl rfl (a33 rfl)) (a1u (a0I (b6K rfl (a0c rfl rfl a48)
   (a7s rfl (seqI (base2 rfl rfl (a85 rfl (by omega) (by omega))) (seqI (b01 (lenB rfl hl) rfl rfl (by decide)) (seqI (b01 rfl rfl rfl (by decide)) rfl))))))))))))))
 | tick x=>
  have hx:x<bs.length:=ok.1
  have hc:=a1a hb hx
  have h1:dIx (.lst ((a0u bs x).map intD)) (.int 0)=okI (fstB bs x:Nat):=a4d (n:=0) (by rw [getElem?_map,b35 hb hx];rfl)
  exact a0x rfl (a0b (a0s (a0c rfl rfl a1g)) (a0b (if_f (a0c rfl rfl (a0A (by decide))) rfl) (a0b (if_f (a0c rfl rfl (a0A (by decide))) rfl) (a0b (a0s (a0S rfl (a0c rfl rfl a1I) hc)) (a0b (if_f (a0c rfl rfl (a0A (by decide))) rfl) (a0b (if_f (a0c rfl rfl (a0A (by decide))) rfl) (a0F (if_t (a0c rfl rfl (a33 rfl)) (a1u (a0I (make1 (a0c rfl rfl h1)
   (a7s rfl (seqI (b0C (a0W (tup2 (a0W rfl rfl) (a0W rfl rfl)) rfl) (a5D rfl _)) rfl)))))))))))))
 | copy x y=>
  have hx:x<bs.length:=ok.1
  have hy:y<bs.length:=ok.2.1
  have hxy:szB bs y=szB bs x:=ok.2.2.2
  have hc:=a1a hb hx
  have hd:=a1a hb hy
  have h12:=a2z hb hx
  have hl:dLen (.lst ((a0u bs x).map intD))=okI (szB bs x:Nat):=by rw [a4U,length_map,a0z]
  have hcomp:a1R [3] (a05 (a0E (f1 dLen) [(eAny 1)])) (a1v 3) a22 (eTup [(eTup [(eBin dIx (eVar 2) (eVar 3))]),(eTup [(eBin dIx (eVar 1) (eVar 3))])]) [none,some (.sh (.lst ((a0u bs x).map intD))),some (.sh (.lst ((a0u bs y).map intD))),none]=okL (((List.range (szB bs x)).map fun k=>(([fstB bs y+k],[fstB bs x+k]):Stp)).map a4F):=by
   rw [map_map]
   refine a3q (List.range (szB bs x)) intD _ (by rw [←rng0];exact a2t (lenB rfl hl) (a1r (by omega))) (by rw [length_range];exact le_trans (by omega:szB bs x<=2) (by decide)) fun k hk=>⟨_,rfl,_,tup2 (a0W (a0c rfl rfl (a4K (by have:=mem_range.mp hk;omega))) rfl) (a0W (a0c rfl rfl (a4K (mem_range.mp hk))) rfl),rfl⟩
  exact a0x rfl (a0b (a0s (a0c rfl rfl a1g)) (a0b (if_f (a0c rfl rfl (a0A (by decide))) rfl) (a0b (if_f (a0c rfl rfl (a0A (by decide))) rfl) (a0b (a0s (a0S rfl (a0c rfl rfl a1I) hc)) (a0b (if_f (a0c rfl rfl (a0A (by decide))) rfl) (a0b (if_f (a0c rfl rfl (a0A (by decide))) rfl) (a0b (if_f (a0c rfl rfl (a0A (by decide))) rfl) (a0b (a0s (a0S rfl (a0c rfl rfl a48) hd)) (a0F (if_t (a0c rfl rfl (a33 rfl)) (a1u (a1u (a0I (b6K rfl rfl
   (a7s rfl (seqI (b0C hcomp (a5D rfl _)) rfl))))))))))))))))
 | anew x y t=>
  obtain ⟨hx,hy,ht,nxy,nxt,nyt,hxy,ht1⟩:=ok
  have hc:=a1a hb hx
  have hd:=a1a hb hy
  have he:=a1a hb ht
  have h2:=clen hb hx
  have h3:=clen hb hy
  have h1:dIx (.lst ((a0u bs t).map intD)) (.int 0)=okI (fstB bs t:Nat):=a4d (n:=0) (by rw [getElem?_map,b35 hb ht];rfl)
  have hl:dLen (.lst ((a0u bs y).map intD))=okI (szB bs y:Nat):=by rw [a4U,length_map,a0z]
  have e1:dAdd (.lst [.int (fstB bs t:Nat)]) (.lst ((a0u bs y).map intD))=okL (([fstB bs t]++a0u bs y).map intD):=by
   rw [a8N (by rw [length_map,length_singleton];omega),map_append];rfl
  have e2:dAdd (.lst (([fstB bs t]++a0u bs y).map intD)) (.lst [.int (fstB bs t:Nat)])=okL (([fstB bs t]++a0u bs y++[fstB bs t]).map intD):=by
   rw [a8N (by rw [length_map,length_append,length_singleton,length_singleton];omega),map_append (l₁:=[fstB bs t]++a0u bs y)];rfl
  exact a0x rfl (a0b (a0s (a0c rfl rfl a1g)) (a0b (if_f (a0c rfl rfl (a0A (by decide))) rfl) (a0b (if_f (a0c rfl rfl (a0A (by decide))) rfl) (a0b (a0s (a0S rfl (a0c rfl rfl a1I) hc)) (a0b (if_f (a0c rfl rfl (a0A (by decide))) rfl) (a0b (if_f (a0c rfl rfl (a0A (by decide))) rfl) (a0b (if_f (a0c rfl rfl (a0A (by decide))) rfl) (a0b (a0s (a0S rfl (a0c rfl rfl a48) hd)) (a0b (if_f (a0c rfl rfl (a0A (by decide))) rfl) (a0F (if_t (a0c rfl rfl (a33 rfl)) (a1u (a1u (a0I (make3 rfl rfl (a0c (a0S rfl (a0c rfl rfl ix_t3) he) rfl h1)
   (a7s rfl (seqI (base2 (a0c (a0c (a0W rfl rfl) rfl e1) (a0W rfl rfl) e2) rfl (a85 rfl (by rw [length_append,length_append,length_singleton];omega) (by omega))) (seqI (b01 (a0c (lenB rfl hl) rfl rfl) rfl rfl (by decide)) rfl))))))))))))))))))
 | iz x y n=>
  obtain ⟨hx,hy,hxy,_⟩:=ok
  have hc:=a1a hb hx
  have hd:=a1a hb hy
  have h2:=clen hb hx
  have h3:=clen hb hy
  exact a0x rfl (a0b (a0s (a0c rfl rfl a1g)) (a0b (if_f (a0c rfl rfl (a0A (by decide))) rfl) (a0b (if_f (a0c rfl rfl (a0A (by decide))) rfl) (a0b (a0s (a0S rfl (a0c rfl rfl a1I) hc)) (a0b (if_f (a0c rfl rfl (a0A (by decide))) rfl) (a0b (if_f (a0c rfl rfl (a0A (by decide))) rfl) (a0b (if_f (a0c rfl rfl (a0A (by decide))) rfl) (a0b (a0s (a0S rfl (a0c rfl rfl a48) hd)) (a0b (if_f (a0c rfl rfl (a0A (by decide))) rfl) (a0b (if_f (a0c rfl rfl (a0A (by decide))) rfl) (a1u (a1u (a0I (b6K rfl rfl
   (a7s rfl (seqI (b0C (un_e (a0c rfl rfl (a8N (by rw [length_map,length_map];omega))) (b5R hb hx hy)) (a55 rfl)) rfl))))))))))))))))
 | most x y n=>
  obtain ⟨hx,hy,hxy,_⟩:=ok
  have hc:=a1a hb hx
  have hd:=a1a hb hy
  have h2:=clen hb hx
  have h3:=clen hb hy
  exact a0x rfl (a0b (a0s (a0c rfl rfl a1g)) (a0b (if_f (a0c rfl rfl (a0A (by decide))) rfl) (a0b (if_f (a0c rfl rfl (a0A (by decide))) rfl) (a0b (a0s (a0S rfl (a0c rfl rfl a1I) hc)) (a0b (if_f (a0c rfl rfl (a0A (by decide))) rfl) (a0b (if_f (a0c rfl rfl (a0A (by decide))) rfl) (a0b (if_f (a0c rfl rfl (a0A (by decide))) rfl) (a0b (a0s (a0S rfl (a0c rfl rfl a48) hd)) (a0b (if_f (a0c rfl rfl (a0A (by decide))) rfl) (a0b (if_f (a0c rfl rfl (a0A (by decide))) rfl) (a1u (a1u (a0I (b6K rfl rfl
   (a7s rfl (seqI (b0C (un_e (a0c rfl rfl (a8N (by rw [length_map,length_map];omega))) (b5R hb hx hy)) (a55 rfl)) rfl))))))))))))))))
theorem fld0 (f:Str) (ns:List Str) (d:D) (ds:List D):fldD f (f::ns) (d::ds)=some d:=by
 unfold fldD;rw [if_pos (by simp)]
theorem reads_e {c:String} (hc:DC.contains c=true) {ns:List Str} {pl:List Stp} {ds:List D} {k:Nat} {p:Stp} (h:pl[k]?=some p):a18 [.obj c (planS::ns) (.lst (pl.map a4F)::ds),.int k]=okL (p.1.map intD):=
 a0x rfl (a0I (a0W (a0c (a0c (a5L rfl rfl hc (fld0 planS ns _ ds)) rfl (a4d (by rw [getElem?_map,h];rfl))) rfl a1g) rfl))
theorem writes_e {c:String} (hc:DC.contains c=true) {ns:List Str} {pl:List Stp} {ds:List D} {k:Nat} {p:Stp} (h:pl[k]?=some p):a1s [.obj c (planS::ns) (.lst (pl.map a4F)::ds),.int k]=okL (p.2.map intD):=
 a0x rfl (a0I (a0W (a0c (a0c (a5L rfl rfl hc (fld0 planS ns _ ds)) rfl (a4d (by rw [getElem?_map,h];rfl))) rfl a1I) rfl))
theorem b5x {c:String} (hc:DC.contains c=true) {ns:List Str} {pl:List Stp} {ds:List D}:a2L [.obj c (planS::ns) (.lst (pl.map a4F)::ds)]=okI (pl.length:Nat):=
 a0x rfl (a0I (lenB (a5L rfl rfl hc (fld0 planS ns _ ds)) (by show okI ((pl.map a4F).length:Int)=_;rw [length_map])))
theorem b4c {c:String} (hc:DC.contains c=true):a3D c=some a18:=by unfold a3D tbG;rw [if_pos hc]
theorem b2n {c:String} (hc:DC.contains c=true):a1T c=some a1s:=by unfold a1T tbG;rw [if_pos hc]
theorem a8R {c:String} (hc:DC.contains c=true):a37 c=some a2L:=by unfold a37 tbG;rw [if_pos hc]
theorem a4p {vs:List Int} {c:Nat} {v:Int} (h:c<vs.length) (hl:vs.length<=1000):a2r [.tup (vs.map D.int),.int c,.int v]=okD (.tup ((vs.set c v).map D.int)):=by
 have e1:a3C (eVar 0) none (some (eVar 1)) [some (.sh (.tup (vs.map D.int))),some (.sh (.int c)),some (.sh (.int v))]=okD (.tup ((vs.map D.int).take c)):=b5T rfl rfl rfl (by rw [length_map];exact h)
 have e2:a3C (eVar 0) (some (eBin dAdd (eVar 1) (eC (.int 1)))) none [some (.sh (.tup (vs.map D.int))),some (.sh (.int c)),some (.sh (.int v))]=okD (.tup ((vs.map D.int).drop (c+1))):=b2B rfl rfl (a0c rfl rfl rfl) (by omega) (by rw [length_map];omega)
 have e3:(vs.set c v).map D.int=(vs.map D.int).take c++[D.int v]++(vs.map D.int).drop (c+1):=by
  rw [List.set_eq_take_append_cons_drop,if_pos h,map_append,map_cons,List.map_take,List.map_drop];simp
 rw [e3]
 exact a0x rfl (a0I (a0c (a0c e1 (a0W rfl rfl) (b7m (by rw [length_take,length_map,length_singleton];omega))) e2 (b7m (by rw [length_append,length_take,length_drop,length_map,length_singleton];omega))))
def a4l (bs:List Bx) (dd:Deed) (turn:Nat) (vs hand:List Int):List Int×List Int×Nat:=match dd with
 | .put x ns=>(vs.set (fstB bs x+turn) (ns.getD turn 0),hand,turn+1)
 | .copy x y=>(vs.set (fstB bs x+turn) (vs.getD (fstB bs y+turn) 0),hand,turn+1)
 | .tick x=>(vs.set (fstB bs x) (vs.getD (fstB bs x) 0+1),hand,turn+1)
 | .grow x n=>if turn<szB bs x then (vs,hand++[vs.getD (fstB bs x+turn) 0],turn+1)
  else (vs.set (fstB bs x+(turn - szB bs x)) (hand.getD (turn - szB bs x) 0+n),if turn+1=2 * szB bs x then [] else hand,turn+1)
 | .anew x y t=>if turn<szB bs y+1 then (vs,hand++[vs.getD (if turn=0 then fstB bs t else fstB bs y+(turn - 1)) 0],turn+1)
  else if szB bs y+1<turn then (vs.set (fstB bs x+(turn - (szB bs y+2))) (hand.getD (turn - (szB bs y+1)) 0),if turn+1=2 * szB bs y+2 then [] else hand,turn+1)
  else if vs.getD (fstB bs t) 0=hand.getD 0 0 then (vs,hand,turn+1) else (vs,[],0)
 | _=>(vs,hand,turn+1)
def resD (r:List Int×List Int×Nat):D:=.tup [.tup (r.1.map D.int),.tup (r.2.1.map D.int),.int (r.2.2:Nat)]
def b7A (bs:List Bx) (dd:Deed) (turn:Nat) (hand:List Int):Prop:=match dd with
 | .grow x _=>szB bs x<=turn->turn - szB bs x<hand.length
 | .anew _ y _=>szB bs y+1<=turn->turn - (szB bs y+1)<hand.length
 | _=>True
theorem b0V (n:Nat):dAdd (.int n) (.int 1)=okI ((n+1:Nat):Int):=rfl
theorem plan_put {bs:List Bx} {x k:Nat} {ns:List Int} (h:k<szB bs x):(a2h bs (.put x ns))[k]?=some ([],[fstB bs x+k]):=by
 show ((a0u bs x).map _)[k]?=_
 rw [getElem?_map,a6K h];rfl
theorem b1g {bs:List Bx} {x y k:Nat} (h:k<szB bs x):(a2h bs (.copy x y))[k]?=some ([fstB bs y+k],[fstB bs x+k]):=by
 show ((List.range (szB bs x)).map _)[k]?=_
 rw [getElem?_map,getElem?_range h];rfl
theorem b4y {bs:List Bx} {x k:Nat} {n:Int} (h:k<szB bs x):(a2h bs (.grow x n))[k]?=some ([fstB bs x+k],[]):=by
 show (((a0u bs x).map _)++_)[k]?=_
 rw [getElem?_append_left (by rw [length_map,a0z];exact h),getElem?_map,a6K h];rfl
theorem b4x {bs:List Bx} {x k:Nat} {n:Int} (h0:szB bs x<=k) (h:k<2 * szB bs x):(a2h bs (.grow x n))[k]?=some ([],[fstB bs x+(k - szB bs x)]):=by
 show (((a0u bs x).map _)++_)[k]?=_
 rw [getElem?_append_right (by rw [length_map,a0z];exact h0),length_map,a0z,getElem?_map,a6K (by omega)];rfl
theorem a2R {bs:List Bx}:∀{dd:Deed},(a2h bs dd).length=match dd with|.put x _=>szB bs x|.copy x _=>szB bs x|.grow x _=>2 * szB bs x|.tick _=>1|.still n=>n|.iz _ _ _=>1|.most _ _ _=>1|.non _=>1|.anew x y _=>szB bs y+2+szB bs x
 | .put x _=>by show ((a0u bs x).map _).length=_;rw [length_map,a0z]
 | .copy x _=>by show ((List.range (szB bs x)).map _).length=_;rw [length_map,length_range]
 | .grow x _=>by show (((a0u bs x).map _)++_).length=_;rw [length_append,length_map,length_map,a0z];show _=2 * szB bs x;omega
 | .tick _=>rfl
 | .still n=>by show (replicate n _).length=_;rw [length_replicate]
 | .iz _ _ _=>rfl
 | .most _ _ _=>rfl
 | .non _=>rfl
 | .anew x y t=>by show ((([fstB bs t]++a0u bs y++[fstB bs t]).map _)++(a0u bs x).map _).length=_;rw [length_append,length_map,length_map,length_append,length_append,a0z,a0z];show _=szB bs y+2+szB bs x;simp;omega
theorem a81 {bs:List Bx} {x y t k:Nat} (h:k=0\/k=szB bs y+1):(a2h bs (.anew x y t))[k]?=some ([fstB bs t],[]):=by
 show ((([fstB bs t]++a0u bs y++[fstB bs t]).map _)++_)[k]?=_
 rw [getElem?_append_left (by rw [length_map,length_append,length_append,a0z];simp;omega),getElem?_map]
 rcases h with rfl|rfl
 ·rfl
 ·rw [getElem?_append_right (by rw [length_append,a0z];simp;omega),length_append,a0z]
  show (([fstB bs t][szB bs y+1 - (1+szB bs y)]?).map _)=_
  rw [show szB bs y+1 - (1+szB bs y)=0 by omega];rfl
theorem b4A {bs:List Bx} {x y t k:Nat} (h:k<szB bs y):(a2h bs (.anew x y t))[k+1]?=some ([fstB bs y+k],[]):=by
 show ((([fstB bs t]++a0u bs y++[fstB bs t]).map _)++_)[k+1]?=_
 rw [getElem?_append_left (by rw [length_map,length_append,length_append,a0z];simp;omega),getElem?_map,getElem?_append_left (by rw [length_append,a0z];simp;omega)]
 show (((a0u bs y)[k]?).map _)=_
 rw [a6K h];rfl
theorem b4z {bs:List Bx} {x y t k:Nat} (h:k<szB bs x):(a2h bs (.anew x y t))[szB bs y+2+k]?=some ([],[fstB bs x+k]):=by
 show ((([fstB bs t]++a0u bs y++[fstB bs t]).map _)++_)[szB bs y+2+k]?=_
 have hl:((([fstB bs t]++a0u bs y++[fstB bs t]).map fun c=>(([c],[]):Stp))).length=szB bs y+2:=by rw [length_map,length_append,length_append,a0z];simp;omega
 rw [getElem?_append_right (by rw [hl];omega),hl,getElem?_map,show szB bs y+2+k - (szB bs y+2)=k by omega,a6K h];rfl
section
variable {bs:List Bx} {vs hand:List Int} {turn:Nat}
theorem r0_e {c:String} (hc:DC.contains c=true) {ns:List Str} {pl:List Stp} {ds:List D} {a:Nat} {q:List Nat} (h:pl[turn]?=some ([a],q)) {ρ:MEnv} {i j:Nat} (hi:ρ[i]?=some (some (.sh (.obj c (planS::ns) (.lst (pl.map a4F)::ds))))) (hn:(planS::ns).contains (Str.ofString "reads")=false) (hj:ρ[j]?=some (some (.sh (.int turn)))):
  eBin dIx (a3z (Str.ofString "reads") a3D (eVar i) [(eVar j)]) (eC (.int 0)) ρ=okI (a:Nat):=
 a0c (meth1 (a02 hi) rfl hn (b4c hc) (a02 hj) (reads_e hc h)) rfl b1Z
theorem w0_e {c:String} (hc:DC.contains c=true) {ns:List Str} {pl:List Stp} {ds:List D} {a:Nat} {q:List Nat} (h:pl[turn]?=some (q,[a])) {ρ:MEnv} {i j:Nat} (hi:ρ[i]?=some (some (.sh (.obj c (planS::ns) (.lst (pl.map a4F)::ds))))) (hn:(planS::ns).contains (Str.ofString "writes")=false) (hj:ρ[j]?=some (some (.sh (.int turn)))):
  eBin dIx (a3z (Str.ofString "writes") a1T (eVar i) [(eVar j)]) (eC (.int 0)) ρ=okI (a:Nat):=
 a0c (meth1 (a02 hi) rfl hn (b2n hc) (a02 hj) (writes_e hc h)) rfl b1Z
theorem a4J {c:String} {ns:List Str} {ds:List D}:a19 [.obj c ns ds,.int turn,.tup (vs.map D.int),.tup (hand.map D.int)]=okD (resD (vs,hand,turn+1)):=
 a0x rfl (a0I (a1S rfl rfl (a0c rfl rfl (b0V turn)) rfl))
theorem laid_e {c:String} (hc:DC.contains c=true) {ns:List Str} {pl:List Stp} {ds:List D} {a:Nat} {q:List Nat} (h:pl[turn]?=some ([a],q)) (hn:(planS::ns).contains (Str.ofString "reads")=false) (ha:a<vs.length) (hh:hand.length<=1000):
  a2g [.obj c (planS::ns) (.lst (pl.map a4F)::ds),.int turn,.tup (vs.map D.int),.tup (hand.map D.int)]=okD (resD (vs,hand++[vs.getD a 0],turn+1)):=by
 have e:dAdd (.tup (hand.map D.int)) (.tup [.int (vs.getD a 0)])=okD (.tup ((hand++[vs.getD a 0]).map D.int)):=by
  rw [b7m (by rw [length_map,length_singleton];omega),map_append];rfl
 exact a0x rfl (a0I (a1S rfl (a0c rfl (a0W (a0c rfl (r0_e hc h rfl hn rfl) (a2Y ha)) rfl) e) (a0c rfl rfl (b0V turn)) rfl))
theorem a8W {c:String} (hc:DC.contains c=true) {ns:List Str} {pl:List Stp} {ds:List D} {a:Nat} {q:List Nat} {v:Int} (h:pl[turn]?=some (q,[a])) (hn:(planS::ns).contains (Str.ofString "writes")=false) (hn':(planS::ns).contains (Str.ofString "turns")=false) (ha:a<vs.length) (hv:vs.length<=1000):
  a1f [.obj c (planS::ns) (.lst (pl.map a4F)::ds),.int turn,.tup (vs.map D.int),.tup (hand.map D.int),.int v]=okD (resD (vs.set a v,if turn+1=pl.length then [] else hand,turn+1)):=by
 have ht:∀ρ:MEnv,ρ[0]?=some (some (.sh (.obj c (planS::ns) (.lst (pl.map a4F)::ds))))->a3z (Str.ofString "turns") a37 (eVar 0) [] ρ=okI (pl.length:Nat):=fun ρ h0=>meth0 (a02 h0) rfl hn' (a8R hc) (b5x hc)
 by_cases e:turn+1=pl.length
 ·rw [if_pos e]
  exact a0x rfl (a0b (a0s (a0c rfl rfl (b0V turn))) (a0b (a0s (ifE_t (a0c rfl (ht _ rfl) (eq_t (by omega))) rfl)) (a0I (a1S (a1S rfl (w0_e hc h rfl hn rfl) rfl (a4p ha hv)) rfl rfl rfl))))
 ·rw [if_neg e]
  exact a0x rfl (a0b (a0s (a0c rfl rfl (b0V turn))) (a0b (a0s (ifE_f (a0c rfl (ht _ rfl) (eq_f (by omega))) rfl)) (a0I (a1S (a1S rfl (w0_e hc h rfl hn rfl) rfl (a4p ha hv)) rfl rfl rfl))))
theorem b0I {c:String} (hc:["Handed","Grow","Anew"].contains c=true):a6V c=some a2g:=by unfold a6V tbG;rw [if_pos hc]
theorem b0J {c:String} (hc:["Handed","Grow","Anew"].contains c=true):a24 c=some a1f:=by unfold a24 tbG;rw [if_pos hc]
theorem after_e (hb:a2m bs) {dd:Deed} (ok:dd.Ok bs) (ht:turn<(a2h bs dd).length) (hv:vs.length=totB bs) (hh:hand.length<=1000) (ho:b7A bs dd turn hand):
  ∃F,a2N (clsOf dd)=some F/\F [(objOf bs dd).val,.int turn,.tup (vs.map D.int),.tup (hand.map D.int)]=okD (resD (a4l bs dd turn vs hand)):=by
 have hT:=b3p hb
 rw [a2R] at ht
 cases dd with
 | still n=>exact ⟨_,a8n,a4J⟩
 | non x=>exact ⟨_,a59,a4J⟩
 | iz x y n=>exact ⟨_,a38,a4J⟩
 | most x y n=>exact ⟨_,a38,a4J⟩
 | put x ns=>
  have hf:=a1O ok.1
  have hn:dIx (.tup (ns.map D.int)) (.int turn)=okI (ns.getD turn 0):=a2Y (by rw [ok.2.1];exact ht)
  exact ⟨_,b0K,a0x rfl (a0I (a1S (a1S rfl (w0_e rfl (plan_put ht) rfl rfl rfl) (a0c (a5L (d:=.tup (ns.map D.int)) rfl rfl rfl rfl) rfl hn) (a4p (by show fstB bs x+turn<_;dsimp only at ht;omega) (by omega))) rfl (a0c rfl rfl (b0V turn)) rfl))⟩
 | copy x y=>
  have hf:=a1O ok.1
  have hg:=a1O ok.2.1
  have hxy:=ok.2.2.2
  dsimp only at ht
  exact ⟨_,a9p,a0x rfl (a0b (a0s (a0c rfl (r0_e rfl (b1g ht) rfl rfl rfl) (a2Y (c:=fstB bs y+turn) (by omega)))) (a0I (a1S (a1S rfl (w0_e rfl (b1g ht) rfl rfl rfl) rfl (a4p (by omega) (by omega))) rfl (a0c rfl rfl (b0V turn)) rfl)))⟩
 | tick x=>
  have hf:=a1O ok.1
  have h1:szB bs x=1:=ok.2
  dsimp only at ht
  obtain rfl:turn=0:=by omega
  exact ⟨_,a9o,a0x rfl (a0b (a0s (w0_e (turn:=0) (pl:=a2h bs (.tick x)) rfl rfl rfl rfl rfl)) (a0I (a1S (a1S rfl rfl (a0c (a0c rfl rfl (a2Y (c:=fstB bs x) (by omega))) rfl rfl) (a4p (by omega) (by omega))) rfl (a0c rfl rfl (b0V 0)) rfl)))⟩
 | grow x n=>
  have hf:=a1O ok.1
  dsimp only at ht
  have hl:(a2h bs (.grow x n)).length=2 * szB bs x:=a2R
  by_cases c:turn<szB bs x
  ·refine ⟨_,a6a,?_⟩
   rw [show a4l bs (.grow x n) turn vs hand=(vs,hand++[vs.getD (fstB bs x+turn) 0],turn+1) from if_pos c]
   exact a0x rfl (a0F (if_t (a0c rfl (a5L (d:=.int (szB bs x:Nat)) rfl rfl rfl rfl) (lt_t (by omega))) (a0I (meth3 rfl rfl rfl (b0I rfl) rfl rfl rfl (laid_e rfl (b4y c) rfl (by omega) hh)))))
  ·refine ⟨_,a6a,?_⟩
   rw [show a4l bs (.grow x n) turn vs hand=(vs.set (fstB bs x+(turn - szB bs x)) (hand.getD (turn - szB bs x) 0+n),if turn+1=2 * szB bs x then [] else hand,turn+1) from if_neg c]
   have hs:dSub (.int turn) (.int (szB bs x:Nat))=okI ((turn - szB bs x:Nat):Int):=by rw [sub_int];congr 4;omega
   have hp:=a8W (vs:=vs) (hand:=hand) (c := "Grow") (ns:=[Str.ofString "size",Str.ofString "number"]) (ds:=[.int (szB bs x:Nat),.int n]) (v:=hand.getD (turn - szB bs x) 0+n) rfl (b4x (n:=n) (by omega) ht) rfl rfl (by omega) (by omega)
   rw [hl] at hp
   exact a0x rfl (a0b (if_f (a0c rfl (a5L (d:=.int (szB bs x:Nat)) rfl rfl rfl rfl) (lt_f (by omega))) rfl) (a0I (meth4 rfl rfl rfl (b0J rfl) rfl rfl rfl (a0c (a0c rfl (a0c rfl (a5L (d:=.int (szB bs x:Nat)) rfl rfl rfl rfl) hs) (a2Y (ho (by omega)))) (a5L (d:=.int n) rfl rfl rfl rfl) rfl) hp)))
 | anew x y t=>
  obtain ⟨hx,hy,htt,nxy,nxt,nyt,hxy,ht1⟩:=ok
  have hfx:=a1O hx
  have hfy:=a1O hy
  have hft:=a1O htt
  dsimp only at ht
  have hl:(a2h bs (.anew x y t)).length=szB bs y+2+szB bs x:=a2R
  have hck:((szB bs y:Nat):Int)+1=((szB bs y+1:Nat):Int):=rfl
  refine ⟨_,a9q,?_⟩
  by_cases c:turn<szB bs y+1
  ·rw [show a4l bs (.anew x y t) turn vs hand=(vs,hand++[vs.getD (if turn=0 then fstB bs t else fstB bs y+(turn - 1)) 0],turn+1) from if_pos c]
   have hp:(a2h bs (.anew x y t))[turn]?=some ([if turn=0 then fstB bs t else fstB bs y+(turn - 1)],[]):=by
    by_cases z:turn=0
    ·rw [if_pos z];exact a81 (.inl z)
    ·rw [if_neg z]
     obtain ⟨k,rfl⟩:∃k,turn=k+1:=⟨turn - 1,by omega⟩
     exact b4A (by omega)
   exact a0x rfl (a0F (if_t (a0c rfl (a5L (d:=.int ((szB bs y:Nat)+1:Int)) rfl rfl rfl rfl) (lt_t (by omega))) (a0I (meth3 rfl rfl rfl (b0I rfl) rfl rfl rfl (laid_e rfl hp rfl (by split <;> omega) hh)))))
  ·by_cases c2:szB bs y+1<turn
   ·rw [show a4l bs (.anew x y t) turn vs hand=(vs.set (fstB bs x+(turn - (szB bs y+2))) (hand.getD (turn - (szB bs y+1)) 0),if turn+1=2 * szB bs y+2 then [] else hand,turn+1) from (if_neg c).trans (if_pos c2)]
    have hs:dSub (.int turn) (.int ((szB bs y:Nat)+1:Int))=okI ((turn - (szB bs y+1):Nat):Int):=by rw [sub_int];congr 4;omega
    have hpl:(a2h bs (.anew x y t))[turn]?=some ([],[fstB bs x+(turn - (szB bs y+2))]):=by
     obtain ⟨k,rfl⟩:∃k,turn=szB bs y+2+k:=⟨turn - (szB bs y+2),by omega⟩
     rw [Nat.add_sub_cancel_left]
     exact b4z (by omega)
    have hp:=a8W (vs:=vs) (hand:=hand) (c := "Anew") (ns:=[Str.ofString "check"]) (ds:=[.int ((szB bs y:Nat)+1:Int)]) (v:=hand.getD (turn - (szB bs y+1)) 0) rfl hpl rfl rfl (by omega) (by omega)
    rw [hl,show szB bs y+2+szB bs x=2 * szB bs y+2 by omega] at hp
    exact a0x rfl (a0b (if_f (a0c rfl (a5L (d:=.int ((szB bs y:Nat)+1:Int)) rfl rfl rfl rfl) (lt_f (by omega))) rfl) (a0F (if_t (a0c rfl (a5L (d:=.int ((szB bs y:Nat)+1:Int)) rfl rfl rfl rfl) (gt_t (by omega))) (a0I (meth4 rfl rfl rfl (b0J rfl) rfl rfl rfl (a0c rfl (a0c rfl (a5L (d:=.int ((szB bs y:Nat)+1:Int)) rfl rfl rfl rfl) hs) (a2Y (ho (by omega)))) hp)))))
   ·have hz:turn=szB bs y+1:=by omega
    have h0:0<hand.length:=by have:=ho (by omega);omega
    have hr:=r0_e (turn:=turn) (c := "Anew") (ns:=[Str.ofString "check"]) (ds:=[.int ((szB bs y:Nat)+1:Int)]) rfl (a81 (x:=x) (t:=t) (.inr hz)) (ρ:=a1y 4 [(objOf bs (.anew x y t)).val,.int turn,.tup (vs.map D.int),.tup (hand.map D.int)]) (i:=0) (j:=1) rfl rfl rfl
    have hi0:dIx (.tup (hand.map D.int)) (.int 0)=okI (hand.getD 0 0):=a2Y (c:=0) h0
    by_cases c3:vs.getD (fstB bs t) 0=hand.getD 0 0
    ·rw [show a4l bs (.anew x y t) turn vs hand=(vs,hand,turn+1) from (if_neg c).trans ((if_neg c2).trans (if_pos c3))]
     exact a0x rfl (a0b (if_f (a0c rfl (a5L (d:=.int ((szB bs y:Nat)+1:Int)) rfl rfl rfl rfl) (lt_f (by omega))) rfl) (a0b (if_f (a0c rfl (a5L (d:=.int ((szB bs y:Nat)+1:Int)) rfl rfl rfl rfl) (gt_f (by omega))) rfl) (a0F (if_t (a0c (a0c rfl hr (a2Y (c:=fstB bs t) (by omega))) (a0c rfl rfl hi0) (eq_t c3)) (a0I (a1S rfl rfl (a0c rfl rfl (b0V turn)) rfl))))))
    ·rw [show a4l bs (.anew x y t) turn vs hand=(vs,[],0) from (if_neg c).trans ((if_neg c2).trans (if_neg c3))]
     exact a0x rfl (a0b (if_f (a0c rfl (a5L (d:=.int ((szB bs y:Nat)+1:Int)) rfl rfl rfl rfl) (lt_f (by omega))) rfl) (a0b (if_f (a0c rfl (a5L (d:=.int ((szB bs y:Nat)+1:Int)) rfl rfl rfl rfl) (gt_f (by omega))) rfl) (a0b (if_f (a0c (a0c rfl hr (a2Y (c:=fstB bs t) (by omega))) (a0c rfl rfl hi0) (eq_f c3)) rfl) (a0I (a1S rfl rfl rfl rfl)))))
end
theorem a04 {bs:List Bx} (hb:a2m bs) {x:Nat} (h:x<bs.length):a2w [a0N bs,.int x]=okL ((a0u bs x).map intD):=by
 have h8:=hb.1
 have hc:a1R [4] (a05 (eVar 1)) (a1v 4) a22 (a0E (f1 dLen) [(eBin dIx (eBin dIx (eVar 0) (eVar 4)) (eC (.int 1)))]) [some (.sh (a0N bs)),some (.sh (.int x)),none,none,none]=okL ((List.range x).map fun k=>intD (szB bs k)):=
  a3q (List.range x) intD _ (by rw [←rng0];exact a2t rfl (a1r (by omega))) (by rw [length_range];exact le_trans (by omega:x<=8) (by decide)) fun k hk=>⟨_,rfl,_,a8V (by have:=mem_range.mp hk;omega) rfl rfl,rfl⟩
 have hs:dSum (.lst ((List.range x).map fun k=>intD (szB bs k)))=okI (fstB bs x:Nat):=by
  have:((List.range x).map fun k=>intD (szB bs k))=((List.range x).map (szB bs)).map intD:=by rw [map_map];rfl
  rw [this,b33];rfl
 have h12:=a2z hb h
 refine a0x rfl (a0b (a0s (a0W hc hs)) (a0I (s:=.own (.lst ((a0u bs x).map intD))) ?_))
 unfold a0u
 rw [map_map]
 exact a3q (List.range (szB bs x)) intD _ (by rw [←rng0];exact a2t (a8V h rfl rfl) (a1r (by omega))) (by rw [length_range];exact le_trans (by omega:szB bs x<=2) (by decide)) fun k _=>⟨_,rfl,_,a0c rfl rfl rfl,rfl⟩
inductive Tn where
 | rest|lay (c:Nat) (v:Int)|tick (c:Nat)|take (c:Nat)|back (c i:Nat) (n:Int)|move (c e:Nat)|same (c:Nat)
def Tn.d:Tn->D
 | .rest=>.tup [.str (Str.ofString "rest"),.int 0,.int 0]
 | .lay c v=>.tup [.str (Str.ofString "lay"),.int c,.int v]
 | .tick c=>.tup [.str (Str.ofString "tick"),.int c,.int 0]
 | .take c=>.tup [.str (Str.ofString "take"),.int c,.int 0]
 | .back c i n=>.tup [.str (Str.ofString "back"),.int c,.tup [.int i,.int n]]
 | .move c e=>.tup [.str (Str.ofString "move"),.int c,.int e]
 | .same c=>.tup [.str (Str.ofString "same"),.int c,.int 0]
def a0P (bs:List Bx):Deed->List Tn
 | .still n=>replicate n .rest
 | .put x ns=>(List.range (szB bs x)).map fun k=>.lay (fstB bs x+k) (ns.getD k 0)
 | .tick x=>[.tick (fstB bs x)]
 | .grow x n=>(a0u bs x).map .take++(List.range (szB bs x)).map fun k=>.back (fstB bs x+k) k n
 | .copy x y=>(List.range (szB bs x)).map fun k=>.move (fstB bs x+k) (fstB bs y+k)
 | .anew x y t=>[.take (fstB bs t)]++(a0u bs y).map .take++[.same (fstB bs t)]++(List.range (szB bs x)).map fun k=>.back (fstB bs x+k) (k+1) 0
 | _=>[.rest]
theorem k1_t {a:Str} {ds:List D} {u v:MC} {ρ:MEnv} {o:Option Out} (h:ρ[1]?=some (some (.sh (.tup (.str a::ds))))) (h2:u ρ=o):sIf (eBin dEq (eBin dIx (eVar 1) (eC (.int 0))) (eC (.str a))) u v ρ=o:=
 if_t (a0c (a0c (a02 h) rfl a1g) rfl (a33 rfl)) h2
theorem k1_f {a b:Str} {ds:List D} {u:MC} {ρ:MEnv} (h:ρ[1]?=some (some (.sh (.tup (.str b::ds))))) (e:b≠a):sIf (eBin dEq (eBin dIx (eVar 1) (eC (.int 0))) (eC (.str a))) u a0Y ρ=some (.next ρ):=
 if_f (a0c (a0c (a02 h) rfl a1g) rfl (a0A e)) rfl
theorem b6S (bs:List Bx) (x:Nat):dLen (.lst ((a0u bs x).map intD))=okI (szB bs x:Nat):=by rw [a4U,length_map,a0z]
theorem own_e {bs:List Bx} (hb:a2m bs) {x:Nat} (hx:x<bs.length) {ρ:MEnv} (h2:ρ[2]?=some (some (.sh (.lst ((a0u bs x).map intD))))) {elt:ME} (f:Nat->Tn) (he:∀k,k<szB bs x->elt ((a1c [6] ρ).set 6 (some (.sh (.int k))))=okD (f k).d):
  a1R [6] (a05 (a0E (f1 dLen) [(eAny 2)])) (a1v 6) a22 elt ρ=okL (((List.range (szB bs x)).map f).map Tn.d):=by
 have h12:=a2z hb hx
 rw [map_map]
 exact a3q (List.range (szB bs x)) intD _ (by rw [←rng0];exact a2t (lenB (a8l h2) (b6S bs x)) (a1r (by omega))) (by rw [length_range];exact le_trans (by omega:szB bs x<=2) (by decide)) fun k hk=>⟨_,rfl,_,he k (mem_range.mp hk),rfl⟩
theorem take_e {A:List Nat} (hA:A.length<=100) {ρ:MEnv} {it:MI} (hi:it ρ=some (.ok (A.map intD))) (hv:7<(a1c [7] ρ).length):a1R [7] it (a1v 7) a22 (eTup [(eC (.str (Str.ofString "take"))),(eVar 7),(eC (.int 0))]) ρ=okL ((A.map Tn.take).map Tn.d):=by
 rw [map_map]
 exact a3q A intD _ hi (le_trans hA (by decide)) fun b _=>⟨_,rfl,_,a1S rfl (a02 (getElem?_set_self hv)) rfl rfl,rfl⟩
theorem vals_ix {ns:List Int} {k:Nat} (h:k<ns.length):dIx (.tup (ns.map D.int)) (.int k)=okI (ns.getD k 0):=a2Y h
theorem succN (n:Nat):dAdd (.int n) (.int 1)=okI ((n+1:Nat):Int):=rfl
set_option maxHeartbeats 4000000 in
theorem b1V {bs:List Bx} (hb:a2m bs) {dd:Deed} (ok:dd.Ok bs):a4P [a0N bs,dd.d]=okL ((a0P bs dd).map Tn.d):=by
 cases dd with
 | still n=>
  have hn:n<=9:=ok.2
  have hc:a1R [6] (a05 (eBin dIx (eVar 1) (eC (.int 1)))) (a1v 6) a22 (eTup [(eC (.str (Str.ofString "rest"))),(eC (.int 0)),(eC (.int 0))]) [some (.sh (a0N bs)),some (.sh (Deed.still n).d),none,none,none,none,none,none]=okL ((List.range n).map fun _=>Tn.rest.d):=
   a3q (List.range n) intD _ (by rw [←rng0];exact a2t (a0c rfl rfl a1I) (a1r (by omega))) (by rw [length_range];exact le_trans hn (by decide)) fun k _=>⟨_,rfl,_,a1S rfl rfl rfl rfl,rfl⟩
  have e:(List.range n).map (fun _=>Tn.rest.d)=(a0P bs (.still n)).map Tn.d:=by
   show _=(replicate n Tn.rest).map Tn.d
   rw [List.map_replicate,List.map_const',length_range]
  rw [e] at hc
  exact a0x rfl (a0F (k1_t rfl (a0I hc)))
 | put x ns=>
  have hx:x<bs.length:=ok.1
  have hn:ns.length=szB bs x:=ok.2.1
  exact a0x rfl (a0b (k1_f rfl (by decide)) (a0b (a0s (a0S rfl (a0c rfl rfl a1I) (a04 hb hx))) (a0F (k1_t rfl (a1u (a0I (own_e hb hx rfl (fun k=>.lay (fstB bs x+k) (ns.getD k 0)) fun k hk=>a1S rfl (a0c rfl rfl (a4K hk)) (a0c (a0c rfl rfl a48) rfl (vals_ix (by omega))) rfl)))))))
 | tick x=>
  have hx:x<bs.length:=ok.1
  have h0:dIx (.lst ((a0u bs x).map intD)) (.int 0)=okI (fstB bs x:Nat):=a4d (n:=0) (by rw [getElem?_map,b35 hb hx];rfl)
  exact a0x rfl (a0b (k1_f rfl (by decide)) (a0b (a0s (a0S rfl (a0c rfl rfl a1I) (a04 hb hx))) (a0b (k1_f rfl (by decide)) (a0F (k1_t rfl (a1u (a0I (a0W (a1S rfl (a0c rfl rfl h0) rfl rfl) rfl))))))))
 | non x=>
  exact a0x rfl (a0b (k1_f rfl (by decide)) (a0b (a0s (a0S rfl (a0c rfl rfl a1I) (a04 hb ok))) (a0b (k1_f rfl (by decide)) (a0b (k1_f rfl (by decide)) (a0b (k1_f rfl (by decide)) (a0b (k1_f rfl (by decide)) (a0b (k1_f rfl (by decide)) (a0I (a0W (a1S rfl rfl rfl rfl) rfl)))))))))
 | iz x y n=>
  exact a0x rfl (a0b (k1_f rfl (by decide)) (a0b (a0s (a0S rfl (a0c rfl rfl a1I) (a04 hb ok.1))) (a0b (k1_f rfl (by decide)) (a0b (k1_f rfl (by decide)) (a0b (k1_f rfl (by decide)) (a0b (k1_f rfl (by decide)) (a0b (k1_f rfl (by decide)) (a0I (a0W (a1S rfl rfl rfl rfl) rfl)))))))))
 | most x y n=>
  exact a0x rfl (a0b (k1_f rfl (by decide)) (a0b (a0s (a0S rfl (a0c rfl rfl a1I) (a04 hb ok.1))) (a0b (k1_f rfl (by decide)) (a0b (k1_f rfl (by decide)) (a0b (k1_f rfl (by decide)) (a0b (k1_f rfl (by decide)) (a0b (k1_f rfl (by decide)) (a0I (a0W (a1S rfl rfl rfl rfl) rfl)))))))))
 | grow x n=>
  have hx:x<bs.length:=ok.1
  have h2:=clen hb hx
  have h12:=a2z hb hx
  have e:dAdd (.lst (((a0u bs x).map Tn.take).map Tn.d)) (.lst (((List.range (szB bs x)).map fun k=>Tn.back (fstB bs x+k) k n).map Tn.d))=okL ((a0P bs (.grow x n)).map Tn.d):=by
   rw [a8N (by rw [length_map,length_map,length_map,length_map,length_range];omega),←map_append];rfl
  exact a0x rfl (a0b (k1_f rfl (by decide)) (a0b (a0s (a0S rfl (a0c rfl rfl a1I) (a04 hb hx))) (a0b (k1_f rfl (by decide)) (a0b (k1_f rfl (by decide)) (a0F (k1_t rfl (a1u (a0b (a0s (take_e (by omega) (a75 rfl rfl) (by show 7<8;decide))) (a1u (a1u (a0I (a0c rfl (own_e hb hx rfl (fun k=>.back (fstB bs x+k) k n) fun k hk=>a1S rfl (a0c rfl rfl (a4K hk)) (tup2 rfl (a0c rfl rfl a48)) rfl) e))))))))))))
 | copy x y=>
  have hx:x<bs.length:=ok.1
  have hy:y<bs.length:=ok.2.1
  have hxy:szB bs y=szB bs x:=ok.2.2.2
  exact a0x rfl (a0b (k1_f rfl (by decide)) (a0b (a0s (a0S rfl (a0c rfl rfl a1I) (a04 hb hx))) (a0b (k1_f rfl (by decide)) (a0b (k1_f rfl (by decide)) (a0b (k1_f rfl (by decide)) (a0F (k1_t rfl (a0b (a0s (a0S rfl (a0c rfl rfl a48) (a04 hb hy))) (a1u (a1u (a0I (own_e hb hx rfl (fun k=>.move (fstB bs x+k) (fstB bs y+k)) fun k hk=>a1S rfl (a0c rfl rfl (a4K hk)) (a0c rfl rfl (a4K (by omega))) rfl))))))))))))
 | anew x y t=>
  obtain ⟨hx,hy,ht,nxy,nxt,nyt,hxy,ht1⟩:=ok
  have h2:=clen hb hx
  have h3:=clen hb hy
  have h12:=a2z hb hx
  have h0:dIx (.lst ((a0u bs t).map intD)) (.int 0)=okI (fstB bs t:Nat):=a4d (n:=0) (by rw [getElem?_map,b35 hb ht];rfl)
  have e1:dAdd (.lst [(Tn.take (fstB bs t)).d]) (.lst (((a0u bs y).map Tn.take).map Tn.d))=okL (([Tn.take (fstB bs t)]++(a0u bs y).map Tn.take).map Tn.d):=by
   rw [a8N (by rw [length_map,length_map,length_singleton];omega)];rfl
  have e2:dAdd (.lst (([Tn.take (fstB bs t)]++(a0u bs y).map Tn.take).map Tn.d)) (.lst [(Tn.same (fstB bs t)).d])=okL (([Tn.take (fstB bs t)]++(a0u bs y).map Tn.take++[Tn.same (fstB bs t)]).map Tn.d):=by
   rw [a8N (by rw [length_map,length_append,length_map,length_singleton,length_singleton];omega),map_append (l₂:=[Tn.same (fstB bs t)])];rfl
  have e3:dAdd (.lst (([Tn.take (fstB bs t)]++(a0u bs y).map Tn.take++[Tn.same (fstB bs t)]).map Tn.d)) (.lst (((List.range (szB bs x)).map fun k=>Tn.back (fstB bs x+k) (k+1) 0).map Tn.d))=okL ((a0P bs (.anew x y t)).map Tn.d):=by
   rw [a8N (by simp only [length_map,length_append,length_singleton,length_range];omega),←map_append];rfl
  have et:∀(s:Str) (c:Nat) (ρ:MEnv),ρ[5]?=some (some (.sh (.int c)))->eLst [(eTup [(eC (.str s)),(eVar 5),(eC (.int 0))])] ρ=okL [.tup [.str s,.int c,.int 0]]:=fun s c ρ h=>a0W (a1S rfl (a02 h) rfl rfl) rfl
  exact a0x rfl (a0b (k1_f rfl (by decide)) (a0b (a0s (a0S rfl (a0c rfl rfl a1I) (a04 hb hx))) (a0b (k1_f rfl (by decide)) (a0b (k1_f rfl (by decide)) (a0b (k1_f rfl (by decide)) (a0b (k1_f rfl (by decide)) (a0F (k1_t rfl (a0b (a0s (a0c (a0S rfl (a0c rfl rfl ix_t3) (a04 hb ht)) rfl h0)) (a0b (a0s (a0c (et _ _ _ rfl) (take_e (by omega) (a75 (a0S rfl (a0c rfl rfl a48) (a04 hb hy)) rfl) (by show 7<8;decide)) e1)) (a1u (a1u (a0I (a0c (a0c rfl (et _ _ _ rfl) e2) (own_e hb hx rfl (fun k=>.back (fstB bs x+k) (k+1) 0) fun k hk=>a1S rfl (a0c rfl rfl (a4K hk)) (tup2 (a0c rfl rfl (succN k)) rfl) rfl) e3))))))))))))))
structure Fr where
 row:Nat
 place:Nat
 turn:Nat
 hand:List Int
def Fr.d (f:Fr):D:=.tup [.int f.row,.int f.place,.int f.turn,.tup (f.hand.map D.int)]
def a3E (p:List Fr):D:=.tup (p.map Fr.d)
def stD (p:List Fr) (cs:List Int):D:=.tup [a3E p,.tup (cs.map D.int)]
abbrev a1A (rs:List Rw) (k:Nat):Rw:=rs.getD k ⟨Str.empty,0,[]⟩
theorem a6g {rs:List Rw} {k:Nat} (h:k<rs.length):rs[k]=a1A rs k:=by
 unfold a1A;rw [getD_eq_getElem?_getD,getElem?_eq_getElem h];rfl
theorem ix_row {rs:List Rw} {k:Nat} (h:k<rs.length):dIx (.tup (rs.map Rw.d)) (.int k)=okD (a1A rs k).d:=ix_tup (by rw [getElem?_map,getElem?_eq_getElem h,a6g h];rfl)
theorem ix_last {ds:List D} {d:D}:dIx (.tup (ds++[d])) (.int (-1))=okD d:=by
 show (atD (ds++[d]) (-1)).bind okD=_
 unfold atD ixD
 rw [if_neg (by decide),if_pos (by rw [length_append,length_singleton];omega)]
 have:((-1:Int)+((ds++[d]).length:Int)).toNat=ds.length:=by rw [length_append,length_singleton];omega
 simp only [Option.bind_some,this]
 rw [getElem?_append_right (le_refl _),sub_self]
 rfl
theorem a6j (u:List Fr) (top:Fr):dIx (a3E (u++[top])) (.int (-1))=okD top.d:=by
 show dIx (.tup ((u++[top]).map Fr.d)) _=_
 rw [map_append];exact ix_last
theorem fr0 (f:Fr):dIx f.d (.int 0)=okI (f.row:Nat):=a1g
theorem b1h {bs:List Bx} {rs:List Rw} {k:Nat} (h:k<rs.length):a3m [a1o bs rs,.int k]=okD (.tup ((a1A rs k).pl.map plD)):=a0x rfl (a0I (a0c (a0c (a0c rfl rfl a1I) rfl (ix_row h)) rfl a48))
theorem b1U (l:List Pl):dLen (.tup (l.map plD))=okI (l.length:Nat):=by rw [dLen_tup,length_map]
def PlaceOk (rs:List Rw) (f:Fr):Prop:=f.row<rs.length/\f.place<=(a1A rs f.row).pl.length
def a5m (k:Nat):Fr:=⟨k,0,0,[]⟩
def a1j (bs:List Bx):List Int:=(bs.map (·.2)).flatten
theorem a7J (q:List Bx) (b:Bx):a1j (q++[b])=a1j q++b.2:=by unfold a1j;rw [map_append,List.flatten_append];simp
theorem b5O {bs:List Bx} (hb:∀b∈bs,b.2.length<=2):(a1j bs).length<=2 * bs.length:=by
 induction bs with
 | nil=>exact le_refl _
 | cons b bs ih=>
  have h1:=hb b mem_cons_self
  have h2:=ih fun c hc=>hb c (mem_cons_of_mem _ hc)
  show ((b::bs).map (·.2)).flatten.length<=_
  rw [map_cons,flatten_cons,length_append,length_cons]
  unfold a1j at h2
  omega
theorem b6i {q post:List Bx} {b:Bx} {bs:List Bx} (hb:a2m bs) (h:bs=q++b::post):(a1j q).length<=16/\b.2.length<=2:=by
 have h8:=hb.1
 have hq:∀c∈q,c.2.length<=2:=fun c hc=>(hb.2 c (by rw [h];simp [hc])).2.1
 have h1:=b5O hq
 have h2:q.length<=8:=by rw [h,length_append] at h8;omega
 exact ⟨by omega,(hb.2 b (by rw [h];simp)).2.1⟩
theorem b1W {bs:List Bx} {rs:List Rw} (hb:a2m bs):a4R [a1o bs rs]=okD (stD [a5m 0] (a1j bs)):=by
 obtain ⟨ρ',e,s1,e2,h1,rfl⟩:=b3W (bd:=a1v 2) (body:=a6O) bD (fun q ρ=>∃(s1:S) (e2:Option S),(s1=.own (.lst ((a1j q).map D.int)))/\ρ=[some (.sh (a1o bs rs)),some s1,e2]) bs (ρ:=[some (.sh (a1o bs rs)),some (.own (.lst [])),none]) ⟨_,none,rfl,rfl⟩ (by
  rintro q b post ρ hq ⟨s1,e2,rfl,rfl⟩
  obtain ⟨l1,l2⟩:=b6i hb hq
  refine ⟨_,_,rfl,.inl (a1u (a0s (a0c rfl (a0W (a0c rfl rfl (b3R b)) rfl) (a8N (by rw [length_map,length_map];omega))))),_,some (.sh (bD b)),rfl,?_⟩
  rw [a7J,map_append];rfl)
 subst h1
 exact a0x rfl (a0b (a0s rfl) (a0b (b48 (a75 (a0c rfl rfl a1g) rfl) e) (a1u (a0I (tup2 (s1:=.sh (a3E [a5m 0])) (s2:=.sh (.tup ((a1j bs).map D.int))) (a0W (a7e rfl rfl rfl rfl rfl) rfl) (a0W rfl rfl))))))
theorem b0X {bs:List Bx} (hb:a2m bs):a4O [a0N bs]=okD (.tup ((a1j bs).map D.int)):=by
 obtain ⟨ρ',e,e2,rfl⟩:=b3W (bd:=a1v 2) (body:=a6M) bD (fun q ρ=>∃e2:Option S,ρ=[some (.sh (a0N bs)),some (.own (.lst ((a1j q).map D.int))),e2]) bs (ρ:=[some (.sh (a0N bs)),some (.own (.lst [])),none]) ⟨none,rfl⟩ (by
  rintro q b post ρ hq ⟨e2,rfl⟩
  obtain ⟨l1,l2⟩:=b6i hb hq
  refine ⟨_,_,rfl,.inl (extend_s rfl (a0c rfl rfl (b3R b)) rfl (by rw [length_map,length_map];exact le_trans (by omega:_<=18) (by decide))),some (.sh (bD b)),?_⟩
  rw [a7J,map_append];rfl)
 exact a0x rfl (a0b (a0s rfl) (a0b (b48 (a75 rfl rfl) e) (a1u (a0I (a0W rfl rfl)))))
theorem begin_eq {bs:List Bx} {rs:List Rw} (hb:a2m bs):a8a [a1o bs rs]=okD (stD [a5m 0] (a1j bs)):=
 a0x rfl (a0I (tup2 (s1:=.sh (a3E [a5m 0])) (s2:=.sh (.tup ((a1j bs).map D.int))) (a0W (a7e rfl rfl rfl rfl rfl) rfl) (a0W (a0c rfl rfl a1g) (b0X hb))))
def a6E:Tn->List Int->List Int->List Int×List Int
 | .lay c v,cs,hand=>(cs.set c v,hand)
 | .tick c,cs,hand=>(cs.set c (cs.getD c 0+1),hand)
 | .take c,cs,hand=>(cs,hand++[cs.getD c 0])
 | .back c i n,cs,hand=>(cs.set c (hand.getD i 0+n),hand)
 | .move c e,cs,hand=>(cs.set c (cs.getD e 0),hand)
 | _,cs,hand=>(cs,hand)
def TnOk (n hl:Nat):Tn->Prop
 | .lay c _=>c<n
 | .tick c=>c<n
 | .take c=>c<n
 | .back c i _=>c<n/\i<hl
 | .move c e=>c<n/\e<n
 | .same c=>c<n/\0<hl
 | .rest=>True
theorem done_len (t:Tn) (cs hand:List Int):(a6E t cs hand).1.length=cs.length:=by cases t <;> simp [a6E]
theorem k0_t {a:Str} {ds:List D} {u v:MC} {ρ:MEnv} {o:Option Out} (h:ρ[0]?=some (some (.sh (.tup (.str a::ds))))) (h2:u ρ=o):sIf (eBin dEq (eBin dIx (eVar 0) (eC (.int 0))) (eC (.str a))) u v ρ=o:=
 if_t (a0c (a0c (a02 h) rfl a1g) rfl (a33 rfl)) h2
theorem k0_f {a b:Str} {ds:List D} {u:MC} {ρ:MEnv} (h:ρ[0]?=some (some (.sh (.tup (.str b::ds))))) (e:b≠a):sIf (eBin dEq (eBin dIx (eVar 0) (eC (.int 0))) (eC (.str a))) u a0Y ρ=some (.next ρ):=
 if_f (a0c (a0c (a02 h) rfl a1g) rfl (a0A e)) rfl
theorem set_map {vs:List Int} {c:Nat} {v:Int}:(vs.map D.int).set c (.int v)=(vs.set c v).map D.int:=by rw [List.map_set]
theorem b3N {vs:List Int} {c:Nat} (h:c<vs.length):dIx (.lst (vs.map D.int)) (.int c)=okI (vs.getD c 0):=a2Y h
theorem put_e {t:D} {cs hand:List Int} {c:Nat} {v:Int} {e1:ME} (h:c<cs.length) (he:e1 [some (.sh t),some (.own (.lst (cs.map D.int))),some (.sh (.tup (hand.map D.int))),some (.sh (.int c))]=okI v):
  a4c 1 (eVar 3) e1 [some (.sh t),some (.own (.lst (cs.map D.int))),some (.sh (.tup (hand.map D.int))),some (.sh (.int c))]=some (.next [some (.sh t),some (.own (.lst ((cs.set c v).map D.int))),some (.sh (.tup (hand.map D.int))),some (.sh (.int c))]):=by
 rw [b5Z (j:=0) (k:=c) he rfl rfl (by rw [length_map];exact h),←set_map]
 rfl
theorem look_e {t:D} {cs hand:List Int} {c k:Nat} {e:ME} (h:k<cs.length) (he:e [some (.sh t),some (.own (.lst (cs.map D.int))),some (.sh (.tup (hand.map D.int))),some (.sh (.int c))]=okI k):
  a0E (f2 dIx) [(eAny 1),e] [some (.sh t),some (.own (.lst (cs.map D.int))),some (.sh (.tup (hand.map D.int))),some (.sh (.int c))]=okI (cs.getD k 0):=callB_e (a0S (F:=f2 dIx) (a8l rfl) he (b3N h)) rfl
theorem b0H {t:Tn} {cs hand:List Int} (h:TnOk cs.length hand.length t) (hh:hand.length<=1000):a2Z [t.d,.tup (cs.map D.int),.tup (hand.map D.int)]=okD (.tup [.tup ((a6E t cs hand).1.map D.int),.tup ((a6E t cs hand).2.map D.int)]):=by
 have lo:∀(d:D) (ws hs:List Int) (a:Option S),(sDem 1 (sRet (eTup [(a0v (f1 a40) [(eVar 1)]),(eVar 2)]))) [some (.sh d),some (.own (.lst (ws.map D.int))),some (.sh (.tup (hs.map D.int))),a]=some (.ret (.sh (.tup [.tup (ws.map D.int),.tup (hs.map D.int)]))):=fun d ws hs a=>a1u (a0I (tup2 (s1:=.sh (.tup (ws.map D.int))) (s2:=.sh (.tup (hs.map D.int))) (a0W rfl rfl) rfl))
 have ls:∀(d:D) (ws hs:List Int) (a:Option S),(sDem 1 (sRet (eTup [(a0v (f1 a40) [(eVar 1)]),(eVar 2)]))) [some (.sh d),some (.sh (.lst (ws.map D.int))),some (.sh (.tup (hs.map D.int))),a]=some (.ret (.sh (.tup [.tup (ws.map D.int),.tup (hs.map D.int)]))):=fun d ws hs a=>a1u (a0I (tup2 (s1:=.sh (.tup (ws.map D.int))) (s2:=.sh (.tup (hs.map D.int))) (a0W rfl rfl) rfl))
 cases t with
 | rest=>exact a0x rfl (a1u (a0b (a0s (a0W rfl rfl)) (a0b (a0s (a0c rfl rfl a1I)) (a0b (k0_f rfl (by decide)) (a0b (k0_f rfl (by decide)) (a0b (k0_f rfl (by decide)) (a0b (k0_f rfl (by decide)) (a0b (k0_f rfl (by decide)) (lo _ cs hand _)))))))))
 | same c=>exact a0x rfl (a1u (a0b (a0s (a0W rfl rfl)) (a0b (a0s (a0c rfl rfl a1I)) (a0b (k0_f rfl (by decide)) (a0b (k0_f rfl (by decide)) (a0b (k0_f rfl (by decide)) (a0b (k0_f rfl (by decide)) (a0b (k0_f rfl (by decide)) (lo _ cs hand _)))))))))
 | lay c v=>exact a0x rfl (a1u (a0b (a0s (a0W rfl rfl)) (a0b (a0s (a0c rfl rfl a1I)) (a0b (k0_t rfl (put_e (v:=v) h (a0c rfl rfl a48))) (a0b (k0_f rfl (by decide)) (a0b (k0_f rfl (by decide)) (a0b (k0_f rfl (by decide)) (a0b (k0_f rfl (by decide)) (lo _ _ hand _)))))))))
 | tick c=>exact a0x rfl (a1u (a0b (a0s (a0W rfl rfl)) (a0b (a0s (a0c rfl rfl a1I)) (a0b (k0_f rfl (by decide)) (a0b (k0_t rfl (put_e (v:=cs.getD c 0+1) h (a0c (look_e h rfl) rfl rfl))) (a0b (k0_f rfl (by decide)) (a0b (k0_f rfl (by decide)) (a0b (k0_f rfl (by decide)) (lo _ _ hand _)))))))))
 | move c e=>exact a0x rfl (a1u (a0b (a0s (a0W rfl rfl)) (a0b (a0s (a0c rfl rfl a1I)) (a0b (k0_f rfl (by decide)) (a0b (k0_f rfl (by decide)) (a0b (k0_t rfl (put_e (v:=cs.getD e 0) h.1 (look_e h.2 (a0c rfl rfl a48)))) (a0b (k0_f rfl (by decide)) (a0b (k0_f rfl (by decide)) (lo _ _ hand _)))))))))
 | take c=>
  have e:dAdd (.tup (hand.map D.int)) (.tup [.int (cs.getD c 0)])=okD (.tup ((hand++[cs.getD c 0]).map D.int)):=by
   rw [b7m (by rw [length_map,length_singleton];omega),map_append];rfl
  exact a0x rfl (a1u (a0b (a0s (a0W rfl rfl)) (a0b (a0s (a0c rfl rfl a1I)) (a0b (k0_f rfl (by decide)) (a0b (k0_f rfl (by decide)) (a0b (k0_f rfl (by decide)) (a0b (k0_t rfl (a1u (a0s (a0c rfl (a0W (a0c rfl rfl (b3N h)) rfl) e)))) (a0b (k0_f rfl (by decide)) (ls _ cs _ _)))))))))
 | back c i n=>exact a0x rfl (a1u (a0b (a0s (a0W rfl rfl)) (a0b (a0s (a0c rfl rfl a1I)) (a0b (k0_f rfl (by decide)) (a0b (k0_f rfl (by decide)) (a0b (k0_f rfl (by decide)) (a0b (k0_f rfl (by decide)) (a0b (k0_t rfl (put_e (v:=hand.getD i 0+n) h.1 (a0c (a0c rfl (a0c (a0c rfl rfl a48) rfl a1g) (a2Y h.2)) (a0c (a0c rfl rfl a48) rfl a1I) rfl))) (lo _ _ hand _)))))))))
def b7B (bs:List Bx) (dd:Deed) (turn:Nat) (hand:List Int):Prop:=match dd with
 | .grow x _=>hand.length=min turn (szB bs x)
 | .anew _ y _=>hand.length=min turn (szB bs y+1)
 | _=>True
theorem b5w {bs:List Bx} (hb:a2m bs) {dd:Deed} (ok:dd.Ok bs):0<(a0P bs dd).length:=by
 cases dd with
 | still n=>show 0<(replicate n _).length;rw [length_replicate];exact ok.1
 | put x ns=>have:=a2z hb ok.1;show 0<((List.range _).map _).length;rw [length_map,length_range];omega
 | copy x y=>have:=a2z hb ok.1;show 0<((List.range _).map _).length;rw [length_map,length_range];omega
 | tick x=>exact Nat.zero_lt_one
 | grow x n=>have:=a2z hb ok.1;show 0<List.length (_++_);rw [length_append,length_map,a0z];omega
 | anew x y t=>show 0<List.length ([_]++_++_++_);simp only [length_append,length_singleton];omega
 | non x=>exact Nat.zero_lt_one
 | iz x y n=>exact Nat.zero_lt_one
 | most x y n=>exact Nat.zero_lt_one
theorem hand0 (bs:List Bx) (dd:Deed):b7B bs dd 0 []:=by
 cases dd <;> first|trivial|(show 0=min 0 _;omega)
theorem tn_ok {bs:List Bx} (hb:a2m bs) {dd:Deed} (ok:dd.Ok bs) {turn:Nat} {hand:List Int} (h:b7B bs dd turn hand) {t:Tn} (ht:(a0P bs dd)[turn]?=some t) (cs:List Int) (hh:hand.length<=100):
  TnOk (totB bs) hand.length t/\(a6E t cs hand).2.length<=100/\(turn+1<(a0P bs dd).length->b7B bs dd (turn+1) (a6E t cs hand).2):=by
 have lt:turn<(a0P bs dd).length:=(List.getElem?_eq_some_iff.mp ht).1
 cases dd with
 | still n=>
  have:t=.rest:=by
   have:(replicate n Tn.rest)[turn]?=some t:=ht
   rw [getElem?_replicate] at this;split at this <;> cases this;rfl
  subst this;exact ⟨trivial,hh,fun _=>trivial⟩
 | non x=>
  have:t=.rest:=by
   have hm:=mem_of_getElem? ht;exact mem_singleton.mp hm
  subst this;exact ⟨trivial,hh,fun _=>trivial⟩
 | iz x y n=>
  have:t=.rest:=by
   have hm:=mem_of_getElem? ht;exact mem_singleton.mp hm
  subst this;exact ⟨trivial,hh,fun _=>trivial⟩
 | most x y n=>
  have:t=.rest:=by
   have hm:=mem_of_getElem? ht;exact mem_singleton.mp hm
  subst this;exact ⟨trivial,hh,fun _=>trivial⟩
 | tick x=>
  have:t=.tick (fstB bs x):=by
   have hm:=mem_of_getElem? ht;exact mem_singleton.mp hm
  subst this
  have hf:=a1O ok.1
  have h1:szB bs x=1:=ok.2
  exact ⟨by show fstB bs x<_;omega,hh,fun _=>trivial⟩
 | put x ns=>
  have hm:=mem_of_getElem? ht
  obtain ⟨k,hk,rfl⟩:=mem_map.mp hm
  have:=mem_range.mp hk
  have hf:=a1O ok.1
  exact ⟨by show fstB bs x+k<_;omega,hh,fun _=>trivial⟩
 | copy x y=>
  have hm:=mem_of_getElem? ht
  obtain ⟨k,hk,rfl⟩:=mem_map.mp hm
  have:=mem_range.mp hk
  have hf:=a1O ok.1
  have hg:=a1O ok.2.1
  have hxy:=ok.2.2.2
  exact ⟨⟨by omega,by omega⟩,hh,fun _=>trivial⟩
 | grow x n=>
  have hf:=a1O ok.1
  have h12:=a2z hb ok.1
  have h:hand.length=min turn (szB bs x):=h
  have hl:(a0P bs (.grow x n)).length=szB bs x+szB bs x:=by show List.length (_++_)=_;rw [length_append,length_map,a0z,length_map,length_range]
  have ht:(((a0u bs x).map Tn.take)++(List.range (szB bs x)).map fun k=>Tn.back (fstB bs x+k) k n)[turn]?=some t:=ht
  by_cases c:turn<szB bs x
  ·rw [getElem?_append_left (by rw [length_map,a0z];exact c),getElem?_map,a6K c] at ht
   cases ht
   refine ⟨by show fstB bs x+turn<_;omega,by show (hand++[_]).length<=100;rw [length_append,length_singleton];omega,fun _=>?_⟩
   show (hand++[_]).length=min (turn+1) (szB bs x)
   rw [length_append,length_singleton];omega
  ·rw [getElem?_append_right (by rw [length_map,a0z];omega),length_map,a0z,getElem?_map,getElem?_range (by omega)] at ht
   cases ht
   refine ⟨⟨by omega,by omega⟩,hh,fun _=>?_⟩
   show hand.length=min (turn+1) (szB bs x)
   omega
 | anew x y tt=>
  obtain ⟨hx,hy,htt,nxy,nxt,nyt,hxy,ht1⟩:=ok
  have hfx:=a1O hx
  have hfy:=a1O hy
  have hft:=a1O htt
  have h12:=a2z hb hx
  have h:hand.length=min turn (szB bs y+1):=h
  have l1:([Tn.take (fstB bs tt)]++(a0u bs y).map Tn.take).length=szB bs y+1:=by rw [length_append,length_map,a0z,length_singleton];omega
  have l2:([Tn.take (fstB bs tt)]++(a0u bs y).map Tn.take++[Tn.same (fstB bs tt)]).length=szB bs y+2:=by rw [length_append,l1,length_singleton]
  have hl:(a0P bs (.anew x y tt)).length=szB bs y+2+szB bs x:=by show List.length (_++_)=_;rw [length_append,l2,length_map,length_range]
  have ht:([Tn.take (fstB bs tt)]++(a0u bs y).map Tn.take++[Tn.same (fstB bs tt)]++(List.range (szB bs x)).map fun k=>Tn.back (fstB bs x+k) (k+1) 0)[turn]?=some t:=ht
  by_cases c:turn<szB bs y+1
  ·rw [getElem?_append_left (by omega),getElem?_append_left (by omega)] at ht
   have:∃c0,c0<totB bs/\t=.take c0:=by
    have hm:=mem_of_getElem? ht
    rcases mem_append.mp hm with z|z
    ·exact ⟨_,by omega,mem_singleton.mp z⟩
    ·obtain ⟨c0,hc0,rfl⟩:=mem_map.mp z
     exact ⟨c0,b0y hy hc0,rfl⟩
   obtain ⟨c0,h0,rfl⟩:=this
   refine ⟨h0,by show (hand++[_]).length<=100;rw [length_append,length_singleton];omega,fun _=>?_⟩
   show (hand++[_]).length=min (turn+1) (szB bs y+1)
   rw [length_append,length_singleton];omega
  ·by_cases c2:turn=szB bs y+1
   ·rw [getElem?_append_left (by omega),getElem?_append_right (by omega),l1,c2,sub_self] at ht
    cases ht
    refine ⟨⟨by omega,by omega⟩,hh,fun _=>?_⟩
    show hand.length=min (turn+1) (szB bs y+1)
    omega
   ·rw [getElem?_append_right (by omega),l2,getElem?_map,getElem?_range (by omega)] at ht
    cases ht
    refine ⟨⟨by omega,by omega⟩,hh,fun _=>?_⟩
    show hand.length=min (turn+1) (szB bs y+1)
    omega
theorem b5A {bs:List Bx} {x k:Nat} {ns:List Int} (h:k<szB bs x):(a0P bs (.put x ns))[k]?=some (.lay (fstB bs x+k) (ns.getD k 0)):=by
 show ((List.range (szB bs x)).map _)[k]?=_
 rw [getElem?_map,getElem?_range h];rfl
theorem b2m {bs:List Bx} {x y k:Nat} (h:k<szB bs x):(a0P bs (.copy x y))[k]?=some (.move (fstB bs x+k) (fstB bs y+k)):=by
 show ((List.range (szB bs x)).map _)[k]?=_
 rw [getElem?_map,getElem?_range h];rfl
theorem a9l {bs:List Bx} {x k:Nat} {n:Int} (h:k<szB bs x):(a0P bs (.grow x n))[k]?=some (.take (fstB bs x+k)):=by
 show (((a0u bs x).map _)++_)[k]?=_
 rw [getElem?_append_left (by rw [length_map,a0z];exact h),getElem?_map,a6K h];rfl
theorem a9k {bs:List Bx} {x k:Nat} {n:Int} (h0:szB bs x<=k) (h:k<2 * szB bs x):(a0P bs (.grow x n))[k]?=some (.back (fstB bs x+(k - szB bs x)) (k - szB bs x) n):=by
 show (((a0u bs x).map _)++_)[k]?=_
 rw [getElem?_append_right (by rw [length_map,a0z];exact h0),length_map,a0z,getElem?_map,getElem?_range (by omega)];rfl
theorem a7D {bs:List Bx} {x y t:Nat}:a0P bs (.anew x y t)=(.take (fstB bs t)::(a0u bs y).map .take)++(.same (fstB bs t)::(List.range (szB bs x)).map fun k=>.back (fstB bs x+k) (k+1) 0):=by
 show [Tn.take (fstB bs t)]++(a0u bs y).map .take++[.same (fstB bs t)]++_=_
 simp
theorem a7x {bs:List Bx} {x y t:Nat}:(a0P bs (.anew x y t))[0]?=some (.take (fstB bs t)):=by rw [a7D];rfl
theorem a5q {bs:List Bx} {y t:Nat}:(Tn.take (fstB bs t)::(a0u bs y).map .take).length=szB bs y+1:=by rw [length_cons,length_map,a0z]
theorem a7w {bs:List Bx} {x y t k:Nat} (h:k<szB bs y):(a0P bs (.anew x y t))[k+1]?=some (.take (fstB bs y+k)):=by
 rw [a7D,getElem?_append_left (by rw [a5q];omega),getElem?_cons_succ,getElem?_map,a6K h];rfl
theorem a9m {bs:List Bx} {x y t:Nat}:(a0P bs (.anew x y t))[szB bs y+1]?=some (.same (fstB bs t)):=by
 rw [a7D,getElem?_append_right (by rw [a5q];omega),a5q,sub_self];rfl
theorem a9n {bs:List Bx} {x y t k:Nat} (h:k<szB bs x):(a0P bs (.anew x y t))[szB bs y+2+k]?=some (.back (fstB bs x+k) (k+1) 0):=by
 rw [a7D,getElem?_append_right (by rw [a5q];omega),a5q,show szB bs y+2+k - (szB bs y+1)=k+1 by omega,getElem?_cons_succ,getElem?_map,getElem?_range h];rfl
theorem a2y {bs:List Bx} (dd:Deed):(a0P bs dd).length=(a2h bs dd).length:=by
 rw [a2R]
 cases dd with
 | still n=>show (replicate n _).length=n;rw [length_replicate]
 | put x ns=>show ((List.range _).map _).length=_;rw [length_map,length_range]
 | copy x y=>show ((List.range _).map _).length=_;rw [length_map,length_range]
 | tick x=>rfl
 | non x=>rfl
 | iz x y n=>rfl
 | most x y n=>rfl
 | grow x n=>show (((a0u bs x).map _)++_).length=2 * szB bs x;rw [length_append,length_map,a0z,length_map,length_range];omega
 | anew x y t=>rw [a7D,length_append,a5q,length_cons,length_map,length_range];show _=szB bs y+2+szB bs x;omega
theorem hand_ok {bs:List Bx} {dd:Deed} (ok:dd.Ok bs) {turn:Nat} {hand:List Int} (h:b7B bs dd turn hand) (ht:turn<(a2h bs dd).length):b7A bs dd turn hand:=by
 rw [a2R] at ht
 cases dd with
 | grow x n=>have h:hand.length=min turn (szB bs x):=h;dsimp only at ht;show szB bs x<=turn->turn - szB bs x<hand.length;omega
 | anew x y t=>have h:hand.length=min turn (szB bs y+1):=h;have:=ok.2.2.2.2.2.2.1;dsimp only at ht;show szB bs y+1<=turn->turn - (szB bs y+1)<hand.length;omega
 | _=>trivial
theorem after_tn {bs:List Bx} {dd:Deed} (ok:dd.Ok bs) {turn:Nat} {t:Tn} (ht:(a0P bs dd)[turn]?=some t) (hn:∀c,t≠.same c) (cs hand:List Int):
  ∃h',a4l bs dd turn cs hand=((a6E t cs hand).1,h',turn+1)/\(turn+1<(a0P bs dd).length->h'=(a6E t cs hand).2):=by
 have lt:turn<(a0P bs dd).length:=(List.getElem?_eq_some_iff.mp ht).1
 have lt':=lt
 rw [a2y,a2R] at lt'
 cases dd with
 | still n=>
  have:t=.rest:=by
   have:(replicate n Tn.rest)[turn]?=some t:=ht
   rw [getElem?_replicate] at this;split at this <;> (cases this;try rfl)
  subst this;exact ⟨hand,rfl,fun _=>rfl⟩
 | non x=>have:t=.rest:=mem_singleton.mp (mem_of_getElem? ht);subst this;exact ⟨hand,rfl,fun _=>rfl⟩
 | iz x y n=>have:t=.rest:=mem_singleton.mp (mem_of_getElem? ht);subst this;exact ⟨hand,rfl,fun _=>rfl⟩
 | most x y n=>have:t=.rest:=mem_singleton.mp (mem_of_getElem? ht);subst this;exact ⟨hand,rfl,fun _=>rfl⟩
 | tick x=>have:t=.tick (fstB bs x):=mem_singleton.mp (mem_of_getElem? ht);subst this;exact ⟨hand,rfl,fun _=>rfl⟩
 | put x ns=>rw [b5A lt'] at ht;cases ht;exact ⟨hand,rfl,fun _=>rfl⟩
 | copy x y=>rw [b2m lt'] at ht;cases ht;exact ⟨hand,rfl,fun _=>rfl⟩
 | grow x n=>
  dsimp only at lt'
  by_cases c:turn<szB bs x
  ·rw [a9l c] at ht;cases ht
   exact ⟨_,if_pos c,fun _=>rfl⟩
  ·rw [a9k (by omega) lt'] at ht;cases ht
   refine ⟨_,if_neg c,fun h=>if_neg ?_⟩
   rw [a2y,a2R] at h
   dsimp only at h
   omega
 | anew x y t'=>
  dsimp only at lt'
  have hxy:szB bs y=szB bs x:=ok.2.2.2.2.2.2.1
  by_cases c:turn<szB bs y+1
  ·cases turn with
   | zero=>rw [a7x] at ht;cases ht;exact ⟨_,by unfold a4l;dsimp only;rw [if_pos c,if_pos rfl];rfl,fun _=>rfl⟩
   | succ k=>rw [a7w (by omega)] at ht;cases ht;exact ⟨_,if_pos c,fun _=>rfl⟩
  ·by_cases c2:szB bs y+1<turn
   ·obtain ⟨k,rfl⟩:∃k,turn=szB bs y+2+k:=⟨turn - (szB bs y+2),by omega⟩
    rw [a9n (by omega)] at ht;cases ht
    have e:a4l bs (.anew x y t') (szB bs y+2+k) cs hand=(cs.set (fstB bs x+(szB bs y+2+k - (szB bs y+2))) (hand.getD (szB bs y+2+k - (szB bs y+1)) 0),if szB bs y+2+k+1=2 * szB bs y+2 then [] else hand,szB bs y+2+k+1):=(if_neg c).trans (if_pos c2)
    rw [e,show szB bs y+2+k - (szB bs y+2)=k by omega,show szB bs y+2+k - (szB bs y+1)=k+1 by omega]
    refine ⟨if szB bs y+2+k+1=2 * szB bs y+2 then [] else hand,?_,fun h=>if_neg ?_⟩
    ·show _=(cs.set (fstB bs x+k) (hand.getD (k+1) 0+0),_,_)
     rw [Int.add_zero]
    ·rw [a2y,a2R] at h
     dsimp only at h
     omega
   ·obtain rfl:turn=szB bs y+1:=by omega
    rw [a9m] at ht;cases ht
    exact absurd rfl (hn _)
theorem b5q {bs:List Bx} {dd:Deed} {turn c:Nat} (ht:(a0P bs dd)[turn]?=some (.same c)) (ok:dd.Ok bs) (cs hand:List Int):
  a4l bs dd turn cs hand=if cs.getD c 0=hand.getD 0 0 then (cs,hand,turn+1) else (cs,[],0):=by
 have lt:turn<(a0P bs dd).length:=(List.getElem?_eq_some_iff.mp ht).1
 have lt':=lt
 rw [a2y,a2R] at lt'
 cases dd with
 | still n=>
  have:(replicate n Tn.rest)[turn]?=some (Tn.same c):=ht
  rw [getElem?_replicate] at this;split at this <;> cases this
 | non x=>cases mem_singleton.mp (show Tn.same c∈[Tn.rest] from mem_of_getElem? ht)
 | iz x y n=>cases mem_singleton.mp (show Tn.same c∈[Tn.rest] from mem_of_getElem? ht)
 | most x y n=>cases mem_singleton.mp (show Tn.same c∈[Tn.rest] from mem_of_getElem? ht)
 | tick x=>cases mem_singleton.mp (show Tn.same c∈[Tn.tick (fstB bs x)] from mem_of_getElem? ht)
 | put x ns=>rw [b5A lt'] at ht;cases ht
 | copy x y=>rw [b2m lt'] at ht;cases ht
 | grow x n=>
  dsimp only at lt'
  by_cases c:turn<szB bs x
  ·rw [a9l c] at ht;cases ht
  ·rw [a9k (by omega) lt'] at ht;cases ht
 | anew x y t'=>
  dsimp only at lt'
  have hxy:szB bs y=szB bs x:=ok.2.2.2.2.2.2.1
  by_cases c:turn<szB bs y+1
  ·cases turn with
   | zero=>rw [a7x] at ht;cases ht
   | succ k=>rw [a7w (by omega)] at ht;cases ht
  ·by_cases c2:szB bs y+1<turn
   ·obtain ⟨k,rfl⟩:∃k,turn=szB bs y+2+k:=⟨turn - (szB bs y+2),by omega⟩
    rw [a9n (by omega)] at ht;cases ht
   ·obtain rfl:turn=szB bs y+1:=by omega
    rw [a9m] at ht;cases ht
    exact (if_neg c).trans (if_neg c2)
def FrOk (bs:List Bx) (rs:List Rw) (f:Fr):Prop:=PlaceOk rs f/\f.hand.length<=100/\∀q,(a1A rs f.row).pl[f.place]?=some q->f.turn<(a0P bs q.1).length/\b7B bs q.1 f.turn f.hand
structure WF (bs:List Bx) (rs:List Rw) (p:List Fr) (cs:List Int) (n:Nat):Prop where
 fr:∀f∈p,FrOk bs rs f
 hd:∃b r,p=b::r/\b.row=0
 len:cs.length=totB bs
 most:p.length<=n
theorem fr1 (f:Fr):dIx f.d (.int 1)=okI (f.place:Nat):=a1I
theorem fr2 (f:Fr):dIx f.d (.int 2)=okI (f.turn:Nat):=a48
theorem fr3 (f:Fr):dIx f.d (.int 3)=okD (.tup (f.hand.map D.int)):=ix_t3
theorem a8S {ds:List D} {d:D}:a6G (.tup (ds++[d])) none (some (-1))=okD (.tup ds):=by
 have e:sIxD (ds++[d]).length (ds++[d]).length (some (-1))=ds.length:=by
  show (if (-1:Int)<0 then ((-1:Int)+((ds++[d]).length:Int)).toNat else min (-1:Int).toNat (ds++[d]).length)=_
  rw [if_pos (by decide),length_append,length_singleton];omega
 show (if (sIxD (ds++[d]).length 0 none=0/\sIxD (ds++[d]).length (ds++[d]).length (some (-1))=(ds++[d]).length) then none else okD (.tup (cutD (ds++[d]) none (some (-1)))))=_
 rw [e,if_neg (by rw [length_append,length_singleton];omega)]
 show okD (.tup (((ds++[d]).drop 0).take (sIxD (ds++[d]).length (ds++[d]).length (some (-1)) - 0)))=_
 rw [e,List.drop_zero,Nat.sub_zero,List.take_left]
theorem a7Q {ρ:MEnv} {u:List Fr} {top:Fr} {cs:List Int} (h:ρ[1]?=some (some (.sh (stD (u++[top]) cs)))):a3C (eBin dIx (eVar 1) (eC (.int 0))) none (some (eC (.int (-1)))) ρ=okD (a3E u):=by
 unfold a3C
 rw [show eBin dIx (eVar 1) (eC (.int 0)) ρ=okD (a3E (u++[top])) from a0c (a02 h) rfl a1g]
 show a6G (.tup ((u++[top]).map Fr.d)) none (some (-1))=_
 rw [map_append]
 exact a8S
theorem b5S {u:List Fr} (h:u.length<=1000) (f:Fr):dAdd (a3E u) (.tup [f.d])=okD (a3E (u++[f])):=by
 show dAdd (.tup (u.map Fr.d)) _=okD (.tup ((u++[f]).map Fr.d))
 rw [b7m (by rw [length_map,length_singleton];omega),map_append];rfl
theorem not_same {t:Tn} (h:∀c,t≠.same c) {ρ:MEnv} (h6:ρ[6]?=some (some (.sh t.d))):eBin dEq (eBin dIx (eVar 6) (eC (.int 0))) (eC (.str (Str.ofString "same"))) ρ=okB false:=by
 cases t with
 | same c=>exact absurd rfl (h c)
 | rest=>exact a0c (a0c (a02 h6) rfl a1g) rfl (a0A (by decide))
 | lay c v=>exact a0c (a0c (a02 h6) rfl a1g) rfl (a0A (by decide))
 | tick c=>exact a0c (a0c (a02 h6) rfl a1g) rfl (a0A (by decide))
 | take c=>exact a0c (a0c (a02 h6) rfl a1g) rfl (a0A (by decide))
 | back c i n=>exact a0c (a0c (a02 h6) rfl a1g) rfl (a0A (by decide))
 | move c e=>exact a0c (a0c (a02 h6) rfl a1g) rfl (a0A (by decide))
section
variable {bs:List Bx} {rs:List Rw} {u:List Fr} {top:Fr} {cs:List Int} {n:Nat}
theorem b0s (hb:a2m bs) (hr:∀r∈rs,∀q∈r.pl,q.1.Ok bs) {k pl:Nat} (hk:k<rs.length) (hp:pl<=(a1A rs k).pl.length):FrOk bs rs ⟨k,pl,0,[]⟩:=by
 refine ⟨⟨hk,hp⟩,zero_le _,fun q hq=>⟨b5w hb (hr (a1A rs k) ?_ q (mem_of_getElem? hq)),hand0 bs q.1⟩⟩
 rw [←a6g hk];exact getElem_mem hk
theorem WF.swap (w:WF bs rs (u++[top]) cs n) {f:Fr} {cs':List Int} (hf:FrOk bs rs f) (hrow:f.row=top.row) (hc:cs'.length=cs.length):WF bs rs (u++[f]) cs' n:=by
 refine ⟨fun g hg=>?_,?_,hc.trans w.len,by have:=w.most;rw [length_append,length_singleton] at this ⊢;exact this⟩
 ·rcases mem_append.mp hg with h|h
  ·exact w.fr g (List.mem_append_left _ h)
  ·rw [mem_singleton.mp h];exact hf
 ·obtain ⟨b,r,e,h0⟩:=w.hd
  cases u with
  | nil=>cases e;exact ⟨f,[],rfl,by rw [hrow];exact h0⟩
  | cons a v=>exact ⟨a,v++[f],rfl,by rw [(List.cons.inj (show a::(v++[top])=b::r from e)).1];exact h0⟩
theorem WF.pop (w:WF bs rs (u++[top]) cs n) (h:0<top.row) {cs':List Int} (hc:cs'.length=cs.length):WF bs rs u cs' n:=by
 refine ⟨fun g hg=>w.fr g (List.mem_append_left _ hg),?_,hc.trans w.len,by have:=w.most;rw [length_append,length_singleton] at this;omega⟩
 obtain ⟨b,r,e,h0⟩:=w.hd
 cases u with
 | nil=>cases e;omega
 | cons a v=>exact ⟨a,v,rfl,by rw [(List.cons.inj (show a::(v++[top])=b::r from e)).1];exact h0⟩
theorem a68 {ρ:MEnv} (h:ρ[1]?=some (some (.sh (a3E (u++[top]))))):a3C (eVar 1) none (some (eC (.int (-1)))) ρ=okD (a3E u):=by
 unfold a3C
 rw [a02 h]
 show a6G (.tup ((u++[top]).map Fr.d)) none (some (-1))=_
 rw [map_append]
 exact a8S
theorem a6P {f:Fr} (h:f.row<rs.length):a17 [a1o bs rs,f.d]=okB (decide (f.place=(a1A rs f.row).pl.length)):=
 a0x rfl (a0I (a0c (a0c rfl rfl (fr1 f)) (lenB (a0S rfl (a0c rfl rfl (fr0 f)) (b1h h)) (b1U _)) (eqN _ _)))
theorem b5g {q:Pl} (h:top.row<rs.length) (hpq:(a1A rs top.row).pl[top.place]?=some q):a6D [a1o bs rs,.int top.row,.int top.place]=okD q.1.d:=
 a0x rfl (a0I (a0c (a0c (a0S rfl rfl (b1h h)) rfl (ix_tup (by rw [getElem?_map,hpq];rfl))) rfl a1g))
theorem no_after (dd:Deed):(planS::b2N dd).contains (Str.ofString "after")=false/\(planS::b2N dd).contains (Str.ofString "turns")=false:=by cases dd <;> exact ⟨rfl,rfl⟩
theorem b2k (h:top.row<rs.length) (c:top.place=(a1A rs top.row).pl.length):a5E [a1o bs rs,a3E (u++[top]),.tup (cs.map D.int)]=okD .non:=by
 have e:=a6P (bs:=bs) (rs:=rs) (f:=top) h
 rw [decide_eq_true c] at e
 exact a0x rfl (a0b (a0s (a0c rfl rfl (a6j u top))) (a0F (if_t (a0S rfl rfl e) rfl)))
theorem b5y (hb:a2m bs) {q:Pl} (hok:q.1.Ok bs) (hrow:top.row<rs.length) (hpq:(a1A rs top.row).pl[top.place]?=some q) (ht:top.turn<(a2h bs q.1).length) (hv:cs.length=totB bs) (hh:top.hand.length<=1000) (ho:b7A bs q.1 top.turn top.hand) (hu:u.length<=1000) {c2 h2:List Int} {t2:Nat} (ha:a4l bs q.1 top.turn cs top.hand=(c2,h2,t2)):
  a5E [a1o bs rs,a3E (u++[top]),.tup (cs.map D.int)]=okD (if t2<(a2h bs q.1).length then stD (u++[⟨top.row,top.place,t2,h2⟩]) c2 else if 0<top.row/\top.place+1=(a1A rs top.row).pl.length then stD u c2 else stD (u++[⟨top.row,top.place+1,0,[]⟩]) c2):=by
 have hlt:top.place<(a1A rs top.row).pl.length:=(List.getElem?_eq_some_iff.mp hpq).1
 have e1:=a6P (bs:=bs) (rs:=rs) (f:=top) hrow
 rw [decide_eq_false (by omega)] at e1
 obtain ⟨F,tF,eF⟩:=after_e hb hok ht hv hh ho
 rw [ha] at eF
 obtain ⟨n1,n2⟩:=no_after q.1
 have hdo:=b5f hb hok
 refine a0x rfl (a0b (a0s (a0c rfl rfl (a6j u top))) (a0b (if_f (a0S rfl rfl e1) rfl) (a0b (a0s (a0S (a0c rfl rfl a1g) (a1S rfl (a0c rfl rfl (fr0 top)) (a0c rfl rfl (fr1 top)) (b5g hrow hpq)) hdo)) (a1u (a0b (a0s (meth3 rfl rfl n1 tF (a0c rfl rfl (fr2 top)) rfl (a0c rfl rfl (fr3 top)) eF)) (a1u ?_))))))
 have hturns:∀ρ:MEnv,ρ[4]?=some (some (.sh (objOf bs q.1).val))->a3z (Str.ofString "turns") a37 (eVar 4) [] ρ=okI ((a2h bs q.1).length:Nat):=fun ρ h=>meth0 (a02 h) rfl n2 (a8R (cls_in q.1)) (b5x (cls_in q.1))
 have r2:dIx (resD (c2,h2,t2)) (.int 2)=okI (t2:Nat):=a48
 by_cases c:t2<(a2h bs q.1).length
 ·rw [if_pos c]
  have e2:=a6P (bs:=bs) (rs:=rs) (f:=⟨top.row,top.place,t2,h2⟩) hrow
  rw [decide_eq_false (by show ¬top.place=(a1A rs top.row).pl.length;omega)] at e2
  have hand:∀ρ:MEnv,ρ[0]?=some (some (.sh (a1o bs rs)))->ρ[6]?=some (some (.sh (Fr.d ⟨top.row,top.place,t2,h2⟩)))->eAnd (eBin dGt (eBin dIx (eVar 6) (eC (.int 0))) (eC (.int 0))) (a0v a17 [(eVar 0),(eVar 6)]) ρ=okB false:=fun ρ h0 h6=>by
   by_cases c3:0<top.row
   ·exact a35 (a0c (a0c (a02 h6) rfl a1g) rfl (gt_t (by first|omega|(dsimp only;omega)))) (a0S (a02 h0) (a02 h6) e2)
   ·exact a6Q (a0c (a0c (a02 h6) rfl a1g) rfl (gt_f (by first|omega|(dsimp only;omega))))
  exact a0b (if_t (a0c (a0c rfl rfl r2) (hturns _ rfl) (lt_t (by omega))) (a0s (s:=.sh (Fr.d ⟨top.row,top.place,t2,h2⟩)) (a7e (a0c rfl rfl (fr0 top)) (a0c rfl rfl (fr1 top)) (a0c rfl rfl r2) (a0c rfl rfl a1I) rfl))) (a0b (if_f (hand _ rfl rfl) rfl) (a0I (tup2 (s1:=.sh (a3E (u++[⟨top.row,top.place,t2,h2⟩]))) (s2:=.sh (.tup (c2.map D.int))) (a0c (a68 rfl) (a0W rfl rfl) (b5S hu ⟨top.row,top.place,t2,h2⟩)) (a0c rfl rfl a1g))))
 ·rw [if_neg c]
  have e2:=a6P (bs:=bs) (rs:=rs) (f:=⟨top.row,top.place+1,0,[]⟩) hrow
  have e2:a17 [a1o bs rs,Fr.d ⟨top.row,top.place+1,0,[]⟩]=okB (decide (top.place+1=(a1A rs top.row).pl.length)):=e2
  have s6:∀ρ:MEnv,ρ[3]?=some (some (.sh top.d))->eTup [(eBin dIx (eVar 3) (eC (.int 0))),(eBin dAdd (eBin dIx (eVar 3) (eC (.int 1))) (eC (.int 1))),(eC (.int 0)),(eTup [])] ρ=okD (Fr.d ⟨top.row,top.place+1,0,[]⟩):=fun ρ h=>a7e (a0c (a02 h) rfl (fr0 top)) (a0c (a0c (a02 h) rfl (fr1 top)) rfl (succN _)) rfl rfl rfl
  by_cases c2':0<top.row/\top.place+1=(a1A rs top.row).pl.length
  ·rw [if_pos c2']
   rw [decide_eq_true c2'.2] at e2
   exact a0b (if_f (a0c (a0c rfl rfl r2) (hturns _ rfl) (lt_f (by omega))) (a0s (s6 _ rfl))) (a0F (if_t (a35 (a0c (a0c rfl rfl a1g) rfl (gt_t (by first|omega|(dsimp only;omega)))) (a0S rfl rfl e2)) (a0I (tup2 (s1:=.sh (a3E u)) (s2:=.sh (.tup (c2.map D.int))) (a68 rfl) (a0c rfl rfl a1g)))))
  ·rw [if_neg c2']
   have hand:∀ρ:MEnv,ρ[0]?=some (some (.sh (a1o bs rs)))->ρ[6]?=some (some (.sh (Fr.d ⟨top.row,top.place+1,0,[]⟩)))->eAnd (eBin dGt (eBin dIx (eVar 6) (eC (.int 0))) (eC (.int 0))) (a0v a17 [(eVar 0),(eVar 6)]) ρ=okB false:=fun ρ h0 h6=>by
    by_cases c3:0<top.row
    ·rw [decide_eq_false (fun z=>c2' ⟨c3,z⟩)] at e2
     exact a35 (a0c (a0c (a02 h6) rfl a1g) rfl (gt_t (by first|omega|(dsimp only;omega)))) (a0S (a02 h0) (a02 h6) e2)
    ·exact a6Q (a0c (a0c (a02 h6) rfl a1g) rfl (gt_f (by first|omega|(dsimp only;omega))))
   exact a0b (if_f (a0c (a0c rfl rfl r2) (hturns _ rfl) (lt_f (by omega))) (a0s (s6 _ rfl))) (a0b (if_f (hand _ rfl rfl) rfl) (a0I (tup2 (s1:=.sh (a3E (u++[⟨top.row,top.place+1,0,[]⟩]))) (s2:=.sh (.tup (c2.map D.int))) (a0c (a68 rfl) (a0W rfl rfl) (b5S hu ⟨top.row,top.place+1,0,[]⟩)) (a0c rfl rfl a1g))))
theorem a7P {r:D} (h:a5E [a1o bs rs,a3E (u++[top]),.tup (cs.map D.int)]=okD r):a2u [a1o bs rs,stD (u++[top]) cs]=okD r:=
 a0x rfl (a0I (a1S rfl (a0c rfl rfl a1g) (a0c rfl rfl a1I) h))
end
def StepT (bs:List Bx) (rs:List Rw) (u:List Fr) (top:Fr) (cs:List Int) (p':List Fr) (cs':List Int):Prop:=∃q t,(a1A rs top.row).pl[top.place]?=some q/\(a0P bs q.1)[top.turn]?=some t/\
 ((∃c,t=.same c/\cs.getD c 0≠top.hand.getD 0 0/\p'=u++[⟨top.row,top.place,0,[]⟩]/\cs'=cs)\/
  ((∀c,t=.same c->cs.getD c 0=top.hand.getD 0 0)/\cs'=(a6E t cs top.hand).1/\
  ((top.turn+1<(a0P bs q.1).length/\p'=u++[⟨top.row,top.place,top.turn+1,(a6E t cs top.hand).2⟩])\/
   (top.turn+1=(a0P bs q.1).length/\((0<top.row/\top.place+1=(a1A rs top.row).pl.length/\p'=u)\/(¬(0<top.row/\top.place+1=(a1A rs top.row).pl.length)/\p'=u++[⟨top.row,top.place+1,0,[]⟩]))))))
section
variable {bs:List Bx} {rs:List Rw} {u:List Fr} {top:Fr} {cs:List Int} {n:Nat}
theorem b7t (hb:a2m bs) (hr:∀r∈rs,∀q∈r.pl,q.1.Ok bs) (w:WF bs rs (u++[top]) cs n) (hn:n<=1000):
  (a16 [a1o bs rs,stD (u++[top]) cs]=okD .non/\a2u [a1o bs rs,stD (u++[top]) cs]=okD .non)\/∃p' cs',a16 [a1o bs rs,stD (u++[top]) cs]=okD (stD p' cs')/\a2u [a1o bs rs,stD (u++[top]) cs]=okD (stD p' cs')/\WF bs rs p' cs' n/\StepT bs rs u top cs p' cs':=by
 obtain ⟨⟨hrow,hpl⟩,hhl,hq⟩:=w.fr top (by simp)
 have hu:u.length<=1000:=by have:=w.most;rw [length_append,length_singleton] at this;omega
 have hp4:∀{ρ:MEnv},ρ[0]?=some (some (.sh (a1o bs rs)))->ρ[2]?=some (some (.sh top.d))->eBin dIx (eBin dIx (eBin dIx (eVar 0) (eC (.int 1))) (eBin dIx (eVar 2) (eC (.int 0)))) (eC (.int 2)) ρ=okD (.tup ((a1A rs top.row).pl.map plD)):=fun h0 h2=>a0c (a0c (a0c (a02 h0) rfl a1I) (a0c (a02 h2) rfl (fr0 top)) (ix_row hrow)) rfl a48
 by_cases c:top.place=(a1A rs top.row).pl.length
 ·exact .inl ⟨a0x rfl (a0b (a0s (a0c (a0c rfl rfl a1g) rfl (a6j u top))) (a0b (a0s (a7Q rfl)) (a0b (a0s (hp4 rfl rfl)) (a0F (if_t (a0c (a0c rfl rfl (fr1 top)) (lenB (a8l rfl) (b1U _)) (eq_t (by omega))) rfl))))),a7P (b2k hrow c)⟩
 ·right
  have hlt:top.place<(a1A rs top.row).pl.length:=by omega
  have hpq:(a1A rs top.row).pl[top.place]?=some (a1A rs top.row).pl[top.place]:=getElem?_eq_getElem hlt
  have hok:(a1A rs top.row).pl[top.place].1.Ok bs:=hr (a1A rs top.row) (by rw [←a6g hrow];exact getElem_mem hrow) _ (getElem_mem hlt)
  obtain ⟨ht,hhd⟩:=hq _ hpq
  have ipl:dIx (.tup ((a1A rs top.row).pl.map plD)) (.int (top.place:Nat))=okD (plD (a1A rs top.row).pl[top.place]):=ix_tup (by rw [getElem?_map,hpq];rfl)
  generalize (a1A rs top.row).pl[top.place]=q at hpq hok ht hhd ipl
  have htn:(a0P bs q.1)[top.turn]?=some (a0P bs q.1)[top.turn]:=getElem?_eq_getElem ht
  generalize (a0P bs q.1)[top.turn]=t at htn
  obtain ⟨k1,k2,k3⟩:=tn_ok hb hok hhd htn cs hhl
  have k1':TnOk cs.length top.hand.length t:=by rw [w.len];exact k1
  have hdone:=b0H k1' (by omega)
  have itn:dIx (.lst ((a0P bs q.1).map Tn.d)) (.int (top.turn:Nat))=okD t.d:=a4d (by rw [getElem?_map,htn];rfl)
  have hlen:dLen (.lst ((a0P bs q.1).map Tn.d))=okI ((a0P bs q.1).length:Nat):=by rw [a4U,length_map]
  have hdl:=done_len t cs top.hand
  have hpt:top.turn<(a2h bs q.1).length:=by rw [←a2y];exact ht
  have hho:=hand_ok hok hhd hpt
  have tq:∀{c2 h2:List Int} {t2:Nat},a4l bs q.1 top.turn cs top.hand=(c2,h2,t2)->_:=fun ha=>a7P (b5y hb hok hrow hpq hpt w.len (by omega) hho hu ha)
  have hat:=fun hn=>after_tn hok htn hn cs top.hand
  generalize hcs:(a6E t cs top.hand).1=cs' at hdone hdl
  generalize hhn:(a6E t cs top.hand).2=hd' at hdone k2 k3
  suffices z:∃p' cs2,a5N [some (.sh (a1o bs rs)),some (.sh (stD (u++[top]) cs)),some (.sh top.d),some (.sh (a3E u)),some (.sh (.tup ((a1A rs top.row).pl.map plD))),some (.sh (.lst ((a0P bs q.1).map Tn.d))),some (.sh t.d),some (.sh (.tup [.tup (cs'.map D.int),.tup (hd'.map D.int)]))]=some (.ret (.sh (stD p' cs2)))/\a2u [a1o bs rs,stD (u++[top]) cs]=okD (stD p' cs2)/\WF bs rs p' cs2 n/\StepT bs rs u top cs p' cs2 by
   obtain ⟨p',cs2,e,ep,wf⟩:=z
   exact ⟨p',cs2,a0x rfl (a0b (a0s (a0c (a0c rfl rfl a1g) rfl (a6j u top))) (a0b (a0s (a7Q rfl)) (a0b (a0s (hp4 rfl rfl)) (a0b (if_f (a0c (a0c rfl rfl (fr1 top)) (lenB (a8l rfl) (b1U _)) (eq_f (by omega))) rfl) (a0b (a0s (a0S (a0c rfl rfl a1g) (a0c (a0c rfl (a0c rfl rfl (fr1 top)) ipl) rfl a1g) (b1V hb hok))) (a1u (a0b (a0s (a0c rfl (a0c rfl rfl (fr2 top)) itn)) (a0b (a0s (a1S rfl (a0c rfl rfl a1I) (a0c rfl rfl (fr3 top)) hdone)) e)))))))),ep,wf⟩
  have lt_e:∀{ρ:MEnv},ρ[2]?=some (some (.sh top.d))->eBin dAdd (eBin dIx (eVar 2) (eC (.int 2))) (eC (.int 1)) ρ=okI ((top.turn+1:Nat):Int):=fun h=>a0c (a0c (a02 h) rfl (fr2 top)) rfl (succN _)
  have pl_e:∀{ρ:MEnv},ρ[2]?=some (some (.sh top.d))->eBin dAdd (eBin dIx (eVar 2) (eC (.int 1))) (eC (.int 1)) ρ=okI ((top.place+1:Nat):Int):=fun h=>a0c (a0c (a02 h) rfl (fr1 top)) rfl (succN _)
  have late:(∃h',a4l bs q.1 top.turn cs top.hand=(cs',h',top.turn+1)/\(top.turn+1<(a0P bs q.1).length->h'=hd'))->(∀c,t=.same c->cs.getD c 0=top.hand.getD 0 0)->∃p' cs2,a5M [some (.sh (a1o bs rs)),some (.sh (stD (u++[top]) cs)),some (.sh top.d),some (.sh (a3E u)),some (.sh (.tup ((a1A rs top.row).pl.map plD))),some (.sh (.lst ((a0P bs q.1).map Tn.d))),some (.sh t.d),some (.sh (.tup [.tup (cs'.map D.int),.tup (hd'.map D.int)]))]=some (.ret (.sh (stD p' cs2)))/\a2u [a1o bs rs,stD (u++[top]) cs]=okD (stD p' cs2)/\WF bs rs p' cs2 n/\StepT bs rs u top cs p' cs2:=by
   rintro ⟨h',ha,hh'⟩ hns
   have tq:=tq ha
   rw [←a2y] at tq
   by_cases c1:top.turn+1<(a0P bs q.1).length
   ·refine ⟨u++[⟨top.row,top.place,top.turn+1,hd'⟩],cs',a0F (if_t (a0c (lt_e rfl) (lenB (a8l rfl) hlen) (lt_t (by omega))) (a0I (tup2 (s1:=.sh (a3E (u++[⟨top.row,top.place,top.turn+1,hd'⟩]))) (s2:=.sh (.tup (cs'.map D.int))) (a0c rfl (a0W (a7e (a0c rfl rfl (fr0 top)) (a0c rfl rfl (fr1 top)) (lt_e rfl) (a0c rfl rfl a1I) rfl) rfl) (b5S hu ⟨top.row,top.place,top.turn+1,hd'⟩)) (a0c rfl rfl a1g)))),by rw [if_pos c1,hh' c1] at tq;exact tq,w.swap ⟨⟨hrow,hpl⟩,k2,fun q' hq'=>?_⟩ rfl hdl,q,t,hpq,htn,.inr ⟨hns,hcs.symm,.inl ⟨c1,by rw [hhn]⟩⟩⟩
    rw [hpq] at hq'
    cases hq'
    exact ⟨c1,k3 c1⟩
   ·by_cases c2:0<top.row/\top.place+1=(a1A rs top.row).pl.length
    ·exact ⟨u,cs',a0b (if_f (a0c (lt_e rfl) (lenB (a8l rfl) hlen) (lt_f (by omega))) rfl) (a0F (if_t (a35 (a0c (a0c rfl rfl (fr0 top)) rfl (gt_t (by omega))) (a0c (pl_e rfl) (lenB (a8l rfl) (b1U _)) (eq_t (by omega)))) (a0I (tup2 (s1:=.sh (a3E u)) (s2:=.sh (.tup (cs'.map D.int))) rfl (a0c rfl rfl a1g))))),by rw [if_neg c1,if_pos c2] at tq;exact tq,w.pop c2.1 hdl,q,t,hpq,htn,.inr ⟨hns,hcs.symm,.inr ⟨by omega,.inl ⟨c2.1,c2.2,rfl⟩⟩⟩⟩
    ·have hf:eAnd (eBin dGt (eBin dIx (eVar 2) (eC (.int 0))) (eC (.int 0))) (eBin dEq (eBin dAdd (eBin dIx (eVar 2) (eC (.int 1))) (eC (.int 1))) (a0E (f1 dLen) [(eAny 4)])) [some (.sh (a1o bs rs)),some (.sh (stD (u++[top]) cs)),some (.sh top.d),some (.sh (a3E u)),some (.sh (.tup ((a1A rs top.row).pl.map plD))),some (.sh (.lst ((a0P bs q.1).map Tn.d))),some (.sh t.d),some (.sh (.tup [.tup (cs'.map D.int),.tup (hd'.map D.int)]))]=okB false:=by
      by_cases c3:0<top.row
      ·exact a35 (a0c (a0c rfl rfl (fr0 top)) rfl (gt_t (by omega))) (a0c (pl_e rfl) (lenB (a8l rfl) (b1U _)) (eq_f (by omega)))
      ·exact a6Q (a0c (a0c rfl rfl (fr0 top)) rfl (gt_f (by omega)))
     exact ⟨u++[⟨top.row,top.place+1,0,[]⟩],cs',a0b (if_f (a0c (lt_e rfl) (lenB (a8l rfl) hlen) (lt_f (by omega))) rfl) (a0b (if_f hf rfl) (a0I (tup2 (s1:=.sh (a3E (u++[⟨top.row,top.place+1,0,[]⟩]))) (s2:=.sh (.tup (cs'.map D.int))) (a0c rfl (a0W (a7e (a0c rfl rfl (fr0 top)) (pl_e rfl) rfl rfl rfl) rfl) (b5S hu ⟨top.row,top.place+1,0,[]⟩)) (a0c rfl rfl a1g)))),by rw [if_neg c1,if_neg c2] at tq;exact tq,w.swap (b0s hb hr hrow (by omega)) rfl hdl,q,t,hpq,htn,.inr ⟨hns,hcs.symm,.inr ⟨by omega,.inr ⟨c2,rfl⟩⟩⟩⟩
  by_cases cs0:∃c,t=.same c
  ·obtain ⟨sc,rfl⟩:=cs0
   have has:=b5q htn hok cs top.hand
   have hcs0:cs=cs':=hcs
   have hhn0:top.hand=hd':=hhn
   have i1:dIx (.tup (cs.map D.int)) (.int (sc:Nat))=okI (cs.getD sc 0):=a2Y k1'.1
   have i2:dIx (.tup (top.hand.map D.int)) (.int 0)=okI (top.hand.getD 0 0):=a2Y (c:=0) k1'.2
   by_cases c4:cs.getD sc 0=top.hand.getD 0 0
   ·rw [if_pos c4] at has
    obtain ⟨p',cs2,e,ep,wf⟩:=late ⟨top.hand,by rw [←hcs0];exact has,fun _=>hhn0⟩ (fun c z=>by cases z;exact c4)
    exact ⟨p',cs2,a0b (if_f (a35 (a0c (a0c rfl rfl a1g) rfl (a33 rfl)) (a0c (a0c (a0c rfl rfl a1I) (a0c rfl rfl a1I) i1) (a0c (a0c rfl rfl (fr3 top)) rfl i2) (ne_f c4))) rfl) e,ep,wf⟩
   ·rw [if_neg c4] at has
    have tq:=tq has
    rw [if_pos (by omega)] at tq
    exact ⟨u++[⟨top.row,top.place,0,[]⟩],cs',a0F (if_t (a35 (a0c (a0c rfl rfl a1g) rfl (a33 rfl)) (a0c (a0c (a0c rfl rfl a1I) (a0c rfl rfl a1I) i1) (a0c (a0c rfl rfl (fr3 top)) rfl i2) (ne_t c4))) (a0I (tup2 (s1:=.sh (a3E (u++[⟨top.row,top.place,0,[]⟩]))) (s2:=.sh (.tup (cs'.map D.int))) (a0c rfl (a0W (a7e (a0c rfl rfl (fr0 top)) (a0c rfl rfl (fr1 top)) rfl rfl rfl) rfl) (b5S hu ⟨top.row,top.place,0,[]⟩)) (a0c rfl rfl a1g)))),by rw [←hcs0];exact tq,w.swap (b0s hb hr hrow hpl) rfl hdl,q,_,hpq,htn,.inl ⟨sc,rfl,c4,rfl,hcs0.symm⟩⟩
  ·have ha:=hat fun c h=>cs0 ⟨c,h⟩
   rw [hcs,hhn] at ha
   obtain ⟨p',cs2,e,ep,wf⟩:=late ha fun c h=>absurd ⟨c,h⟩ cs0
   exact ⟨p',cs2,a0b (if_f (a6Q (not_same (fun c h=>cs0 ⟨c,h⟩) rfl)) rfl) e,ep,wf⟩
end
section
variable {bs:List Bx} {rs:List Rw} {p:List Fr} {cs:List Int} {n:Nat}
theorem b6k (vs:List Int) (h:vs.length<=1000):Pn 1 (.tup (vs.map D.int)):=.tup 0 _ (fun d hd=>by obtain ⟨i,_,rfl⟩:=mem_map.mp hd;exact .int 0 i) (by rw [length_map];exact le_trans h (by decide))
theorem pn_fr {f:Fr} (h:f.hand.length<=1000):Pn 2 f.d:=.tup 1 _ (fun d hd=>by
 rcases mem_cons.mp hd with rfl|hd
 ·exact .int 1 _
 ·rcases mem_cons.mp hd with rfl|hd
  ·exact .int 1 _
  ·rcases mem_cons.mp hd with rfl|hd
   ·exact .int 1 _
   ·rw [mem_singleton.mp hd];exact b6k _ h) (by show 4<=lim;decide)
theorem pn_st {p:List Fr} {cs:List Int} (h:∀f∈p,f.hand.length<=1000) (hp:p.length<=1000) (hc:cs.length<=1000):Pn 4 (stD p cs):=.tup 3 _ (fun d hd=>by
 rcases mem_cons.mp hd with rfl|hd
 ·exact .tup 2 _ (fun d hd=>by obtain ⟨f,hf,rfl⟩:=mem_map.mp hd;exact pn_fr (h f hf)) (by rw [length_map];exact le_trans hp (by decide))
 ·rw [mem_singleton.mp hd];exact (b6k _ hc).mono (by decide)) (by show 2<=lim;decide)
theorem b4j (bs:List Bx):(a1j bs).length=totB bs:=by
 have hts:∀x,x<=bs.length->((bs.take x).map fun b=>b.2.length).sum=fstB bs x:=fun x h=>by
  unfold fstB
  congr 1
  refine List.ext_getElem? fun i=>?_
  rw [getElem?_map,getElem?_map]
  by_cases hi:i<x
  ·rw [List.getElem?_take_of_lt hi,getElem?_range hi,getElem?_eq_getElem (by omega)]
   show some bs[i].2.length=some (szB bs i)
   rw [b5M (by omega)]
  ·rw [getElem?_eq_none (by rw [length_take];omega),getElem?_eq_none (by rw [length_range];omega)];rfl
 have h:=hts bs.length (le_refl _)
 rw [List.take_length] at h
 unfold a1j totB
 rw [List.length_flatten,map_map,←h]
 rfl
end
section
variable {bs:List Bx} {rs:List Rw}
def Calm (bs:List Bx) (rs:List Rw) (f:Fr) (cs:List Int):Prop:=∀q x y t,(a1A rs f.row).pl[f.place]?=some q->q.1=.anew x y t->1<=f.turn->f.turn<=szB bs y+1->f.hand.getD 0 0=cs.getD (fstB bs t) 0
def posF (f:Fr):Nat:=f.place * 20+f.turn
theorem turns_le (hb:a2m bs) {dd:Deed} (ok:dd.Ok bs):(a0P bs dd).length<=9:=by
 rw [a2y,a2R]
 cases dd with
 | put x ns=>have:=a2z hb ok.1;dsimp only;omega
 | copy x y=>have:=a2z hb ok.1;dsimp only;omega
 | grow x n=>have:=a2z hb ok.1;dsimp only;omega
 | tick x=>dsimp only;omega
 | still n=>have:=ok.2;dsimp only;omega
 | iz x y n=>dsimp only;omega
 | most x y n=>dsimp only;omega
 | non x=>dsimp only;omega
 | anew x y t=>have:=a2z hb ok.1;have:=ok.2.2.2.2.2.2.1;dsimp only;omega
theorem same_is {dd:Deed} (ok:dd.Ok bs) {turn c:Nat} (ht:(a0P bs dd)[turn]?=some (.same c)):∃x y t,dd=.anew x y t/\turn=szB bs y+1/\c=fstB bs t:=by
 have lt:turn<(a0P bs dd).length:=(List.getElem?_eq_some_iff.mp ht).1
 have lt':=lt
 rw [a2y,a2R] at lt'
 cases dd with
 | still n=>
  have:(replicate n Tn.rest)[turn]?=some (Tn.same c):=ht
  rw [getElem?_replicate] at this;split at this <;> cases this
 | non x=>cases mem_singleton.mp (show Tn.same c∈[Tn.rest] from mem_of_getElem? ht)
 | iz x y n=>cases mem_singleton.mp (show Tn.same c∈[Tn.rest] from mem_of_getElem? ht)
 | most x y n=>cases mem_singleton.mp (show Tn.same c∈[Tn.rest] from mem_of_getElem? ht)
 | tick x=>cases mem_singleton.mp (show Tn.same c∈[Tn.tick (fstB bs x)] from mem_of_getElem? ht)
 | put x ns=>rw [b5A lt'] at ht;cases ht
 | copy x y=>rw [b2m lt'] at ht;cases ht
 | grow x n=>
  dsimp only at lt'
  by_cases c:turn<szB bs x
  ·rw [a9l c] at ht;cases ht
  ·rw [a9k (by omega) lt'] at ht;cases ht
 | anew x y t'=>
  dsimp only at lt'
  have hxy:szB bs y=szB bs x:=ok.2.2.2.2.2.2.1
  by_cases c:turn<szB bs y+1
  ·cases turn with
   | zero=>rw [a7x] at ht;cases ht
   | succ k=>rw [a7w (by omega)] at ht;cases ht
  ·by_cases c2:szB bs y+1<turn
   ·obtain ⟨k,rfl⟩:∃k,turn=szB bs y+2+k:=⟨turn - (szB bs y+2),by omega⟩
    rw [a9n (by omega)] at ht;cases ht
   ·obtain rfl:turn=szB bs y+1:=by omega
    rw [a9m] at ht;cases ht
    exact ⟨x,y,t',rfl,rfl,rfl⟩
theorem b65 {l:List Int} {x:Int} (h:0<l.length):(l++[x]).getD 0 0=l.getD 0 0:=by
 cases l with
 | nil=>cases h
 | cons a l=>rfl
theorem b5N (hb:a2m bs) (hr:∀r∈rs,∀q∈r.pl,q.1.Ok bs) (h12:(a1A rs 0).pl.length<=12) {f:Fr} {cs cs':List Int} {p':List Fr} {n:Nat} (w:WF bs rs [f] cs n) (h0:f.row=0) (ca:Calm bs rs f cs) (s:StepT bs rs [] f cs p' cs'):
  ∃f',p'=[f']/\f'.row=0/\Calm bs rs f' cs'/\posF f<posF f'/\posF f'<=240:=by
 obtain ⟨q,t,hq,ht,s⟩:=s
 obtain ⟨⟨hrow,hpl⟩,hhl,hqq⟩:=w.fr f (by simp)
 have hlt:f.place<(a1A rs f.row).pl.length:=(List.getElem?_eq_some_iff.mp hq).1
 have hok:q.1.Ok bs:=hr (a1A rs f.row) (by rw [←a6g hrow];exact getElem_mem hrow) _ (mem_of_getElem? hq)
 have ht9:=turns_le hb hok
 have htl:f.turn<(a0P bs q.1).length:=(List.getElem?_eq_some_iff.mp ht).1
 have hp12:f.place<12:=by rw [h0] at hlt;omega
 rcases s with ⟨c,rfl,hne,_,_⟩|⟨_,rfl,⟨hl,rfl⟩|⟨hl,⟨hr0,_⟩|⟨_,rfl⟩⟩⟩
 ·obtain ⟨x,y,t',e1,e2,rfl⟩:=same_is hok ht
  exact absurd (ca q x y t' hq e1 (by omega) (by omega)).symm hne
 ·refine ⟨_,rfl,h0,fun q' x y t' hq' e1 h1 h2=>?_,by unfold posF;dsimp only;omega,by unfold posF;dsimp only;omega⟩
  have hqe:q'=q:=Option.some.inj (hq'.symm.trans hq)
  subst hqe
  have hn:=(hqq q' hq').2
  rw [e1] at ht hn
  have h2:f.turn+1<=szB bs y+1:=h2
  show (a6E t cs f.hand).2.getD 0 0=(a6E t cs f.hand).1.getD (fstB bs t') 0
  cases hk:f.turn with
  | zero=>
   rw [hk] at ht hn
   rw [a7x] at ht;cases ht
   have hn:f.hand.length=min 0 (szB bs y+1):=hn
   have:f.hand=[]:=List.length_eq_zero_iff.mp (by omega)
   rw [this];rfl
  | succ k=>
   have c0:=ca q' x y t' hq' e1 (by omega) (by omega)
   rw [hk] at ht hn
   rw [a7w (by omega)] at ht;cases ht
   have hn:f.hand.length=min (k+1) (szB bs y+1):=hn
   show (f.hand++[_]).getD 0 0=cs.getD (fstB bs t') 0
   rw [b65 (by omega),c0]
 ·omega
 ·exact ⟨_,rfl,h0,fun _ _ _ _ _ _ h1 _=>absurd (show 1<=0 from h1) (by decide),by unfold posF;dsimp only;omega,by unfold posF;dsimp only;omega⟩
inductive Run (bs:List Bx) (rs:List Rw):List (Fr×List Int)->Prop
 | last {f:Fr} {cs:List Int}:a16 [a1o bs rs,stD [f] cs]=okD .non->a2u [a1o bs rs,stD [f] cs]=okD .non->Run bs rs [(f,cs)]
 | next {f f':Fr} {cs cs':List Int} {l:List (Fr×List Int)}:a16 [a1o bs rs,stD [f] cs]=okD (stD [f'] cs')->a2u [a1o bs rs,stD [f] cs]=okD (stD [f'] cs')->posF f<posF f'->Run bs rs ((f',cs')::l)->Run bs rs ((f,cs)::(f',cs')::l)
theorem run_ok (hb:a2m bs) (hr:∀r∈rs,∀q∈r.pl,q.1.Ok bs) (h12:(a1A rs 0).pl.length<=12):∀(m:Nat) (f:Fr) (cs:List Int),241<=posF f+m->posF f<=240->WF bs rs [f] cs 1->f.row=0->Calm bs rs f cs->
  ∃l,Run bs rs ((f,cs)::l)/\((f,cs)::l).length<=m/\∀s∈(f,cs)::l,WF bs rs [s.1] s.2 1/\posF s.1<=240
 | 0,f,cs,h1,h2,_,_,_=>by omega
 | m+1,f,cs,h1,h2,w,h0,ca=>by
  rcases b7t (u:=[]) hb hr w (by decide) with ⟨e1,e2⟩|⟨p',cs',e1,e2,w',s⟩
  ·exact ⟨[],.last e1 e2,by show 1<=m+1;omega,fun s hs=>by rw [mem_singleton.mp hs];exact ⟨w,h2⟩⟩
  ·obtain ⟨f',rfl,h0',ca',hp,h2'⟩:=b5N hb hr h12 w h0 ca s
   obtain ⟨l,r,hl,hw⟩:=run_ok hb hr h12 m f' cs' (by omega) h2' w' h0' ca'
   refine ⟨(f',cs')::l,.next e1 e2 hp r,by rw [length_cons];omega,fun s hs=>?_⟩
   rcases mem_cons.mp hs with rfl|hs
   ·exact ⟨w,h2⟩
   ·exact hw s hs
end
theorem b6x (n:Nat) (i:Int):okK n (.int i)=true:=by cases n <;> rfl
theorem b3I (n:Nat) (l:List Int):(l.map D.int).all (okK n)=true:=all_eq_true.mpr fun d hd=>by obtain ⟨i,_,rfl⟩:=mem_map.mp hd;exact b6x n i
theorem okK_fr (f:Fr):okK 4 f.d=true:=by
 show List.all _ (okK 3)=true
 simp only [List.all_cons,List.all_nil,b6x,Bool.true_and,Bool.and_true]
 exact b3I 2 f.hand
theorem okT_st (p:List Fr) (cs:List Int):okT (stD p cs)=true:=by
 show List.all _ (okK 5)=true
 simp only [List.all_cons,List.all_nil,Bool.and_true,and_eq_true]
 exact ⟨all_eq_true.mpr fun d hd=>by obtain ⟨f,_,rfl⟩:=mem_map.mp hd;exact okK_fr f,b3I 4 cs⟩
theorem a9h {c:ME} {body:MC} {n:Nat} {ρ ρ2:MEnv} {o:Option Out} (h:c ρ=okB true) (hb:body ρ=some (.next ρ2)) (h2:a23 c body n ρ2=o):a23 c body (n+1) ρ=o:=by
 unfold a23;rw [h]
 show (if true=true then (match body ρ with|some (.next ρ2)=>a23 c body n ρ2|some (.cont ρ2)=>a23 c body n ρ2|some (.brk ρ2)=>some (.next ρ2)|o=>o) else some (.next ρ))=o
 rw [if_pos rfl,hb];exact h2
theorem b5t {c:ME} {body:MC} {n:Nat} {ρ:MEnv} (h:c ρ=okB false):a23 c body (n+1) ρ=some (.next ρ):=by
 unfold a23;rw [h];rfl
theorem mexpr_s {i:Nat} {F:MF} {gs hs:List ME} {ρ:MEnv} {o o':O} {ds es:List D} {d:D} (h:ρ[i]?=some (some (.own o))) (h1:a1B gs ρ=some ds) (h2:a1B hs ρ=some es) (h3:F o.core ds es=some (d,o')):b08 (b4Y i F gs hs) ρ=some (.next (ρ.set i (some (.own (o.put o'))))):=by
 unfold b08 b4Y;rw [h];dsimp only;rw [h1,h2];dsimp only [Option.bind_some];rw [h3];rfl
def keyF (s:Fr×List Int):D:=stD [s.1] s.2
def rowF (s:Fr×List Int):D:=.tup [keyF s,.int 0]
section
variable {bs:List Bx} {rs:List Rw}
theorem b6T (A:S):∀(l:List (Fr×List Int)),Run bs rs l->∀(n:Nat) (acc:List D),l.length<n->acc.length+l.length<1000->∀(f:Fr) (cs:List Int) (t:List (Fr×List Int)),l=(f,cs)::t->
  a23 (eUn b3f (eVar 3)) b7v n [some A,some (.sh (a1o bs rs)),some (.own (.lst acc)),some (.sh (stD [f] cs))]=some (.next [some A,some (.sh (a1o bs rs)),some (.own (.lst (acc++l.map rowF))),some (.sh .non)]):=by
 intro l r
 induction r with
 | @last f cs e1 e2=>
  intro n acc hn hl f0 cs0 t e
  cases e
  obtain ⟨m,rfl⟩:∃m,n=m+2:=⟨n - 2,by rw [length_singleton] at hn;omega⟩
  have hl:acc.length+1<1000:=hl
  refine a9h (un_e rfl rfl) (a0b (a5I rfl (tup2 rfl rfl) (lt_of_lt_of_le (show acc.length<1000 by omega) (by decide))) (a0s (a0S rfl rfl e1))) ?_
  exact b5t (un_e rfl rfl)
 | @next f f' cs cs' l e1 e2 hp r ih=>
  intro n acc hn hl f0 cs0 t e
  cases e
  obtain ⟨m,rfl⟩:∃m,n=m+1:=⟨n - 1,by omega⟩
  rw [length_cons] at hn hl
  refine a9h (un_e rfl rfl) (a0b (a5I rfl (tup2 rfl rfl) (lt_of_lt_of_le (show acc.length<1000 by omega) (by decide))) (a0s (a0S rfl rfl e1))) ?_
  have z:=ih m (acc++[rowF (f,cs)]) (by omega) (by rw [length_append,length_singleton];omega) f' cs' l rfl
  rw [append_assoc] at z
  exact z
theorem st_inj {f g:Fr} {cs ds:List Int} (h:keyF (f,cs)=keyF (g,ds)):posF f=posF g:=by
 unfold keyF stD a3E Fr.d at h
 simp only [map_cons,map_nil,D.tup.injEq,List.cons.injEq,D.int.injEq,and_true] at h
 obtain ⟨⟨_,h2,h3,_⟩,_⟩:=h
 unfold posF
 omega
def a6o (s:Fr×List Int):D×D:=(keyF s,.int 0)
theorem tab_walk (a:Nat):∀(l:List (Fr×List Int)),Run bs rs l->∀(n:Nat) (pre:List (Fr×List Int)),l.length<n->(∀s∈l,posF s.1<=240)->∀(f:Fr) (cs:List Int) (t:List (Fr×List Int)),l=(f,cs)::t->(∀s∈pre,posF s.1<posF f)->pre.length<=posF f->
  a23 (eAnd (eUn b3f (eVar 1)) (a8c true 4 (eVar 1))) a4k n [some (.sh (a1o bs rs)),some (.sh (stD [f] cs)),some (.sh (.int 0)),some (.sh (.int 300)),some (.own (.par a (.tab (pre.map a6o))))]=some (.next [some (.sh (a1o bs rs)),some (.sh .non),some (.sh (.int 0)),some (.sh (.int 300)),some (.own (.par a (.tab ((pre++l).map a6o))))]):=by
 intro l r
 have one:∀(f:Fr) (cs:List Int) (pre:List (Fr×List Int)) (d:D),posF f<=240->(∀s∈pre,posF s.1<posF f)->pre.length<=posF f->a2u [a1o bs rs,stD [f] cs]=okD d->
   (eAnd (eUn b3f (eVar 1)) (a8c true 4 (eVar 1))) [some (.sh (a1o bs rs)),some (.sh (stD [f] cs)),some (.sh (.int 0)),some (.sh (.int 300)),some (.own (.par a (.tab (pre.map a6o))))]=okB true/\
   a4k [some (.sh (a1o bs rs)),some (.sh (stD [f] cs)),some (.sh (.int 0)),some (.sh (.int 300)),some (.own (.par a (.tab (pre.map a6o))))]=some (.next [some (.sh (a1o bs rs)),some (.sh d),some (.sh (.int 0)),some (.sh (.int 300)),some (.own (.par a (.tab ((pre++[(f,cs)]).map a6o))))]):=fun f cs pre d h240 hpre hlen hd=>by
  have hne:∀p∈pre.map a6o,p.1≠stD [f] cs:=fun p hp e=>by
   obtain ⟨s,hs,rfl⟩:=mem_map.mp hp
   have:=hpre s hs
   have:=st_inj (f:=s.1) (g:=f) (cs:=s.2) (ds:=cs) e
   omega
  have hl:(pre.map a6o).length=pre.length:=length_map ..
  refine ⟨a35 (un_e rfl rfl) ?_,?_⟩
  ·rw [hasD_e (o:=.par a (.tab (pre.map a6o))) rfl rfl rfl (okT_st [f] cs),getD_none hne];rfl
  ·refine a0b (if_f (a0c (lenD_e (o:=.par a (.tab (pre.map a6o))) rfl rfl) rfl (eq_f ?_)) rfl) (a0b (putD_s (o:=.par a (.tab (pre.map a6o))) rfl rfl rfl rfl (okT_st [f] cs) ?_) ?_)
   ·rw [hl];omega
   ·rw [hl];exact Nat.lt_of_le_of_lt (show pre.length<=240 by omega) (by decide)
   ·rw [putT_new _ hne,map_append]
    have q:∀ρ:MEnv,ρ[0]?=some (some (.sh (a1o bs rs)))->ρ[1]?=some (some (.sh (stD [f] cs)))->a0v a2u [(eVar 0),(eVar 1)] ρ=okD d:=fun ρ h0 h1=>a0S (a02 h0) (a02 h1) hd
    exact a0s (s:=.sh d) (q _ rfl rfl)
 induction r with
 | @last f cs e1 e2=>
  intro n pre hn h240 f0 cs0 t e hpre hlen
  cases e
  obtain ⟨m,rfl⟩:∃m,n=m+2:=⟨n - 2,by rw [length_singleton] at hn;omega⟩
  obtain ⟨o1,o2⟩:=one f cs pre .non (h240 (f,cs) (mem_singleton.mpr rfl)) hpre hlen e2
  exact a9h o1 o2 (b5t (a6Q (un_e rfl rfl)))
 | @next f f' cs cs' l e1 e2 hp r ih=>
  intro n pre hn h240 f0 cs0 t e hpre hlen
  cases e
  obtain ⟨m,rfl⟩:∃m,n=m+1:=⟨n - 1,by omega⟩
  rw [length_cons] at hn
  obtain ⟨o1,o2⟩:=one f cs pre _ (h240 (f,cs) mem_cons_self) hpre hlen e2
  refine a9h o1 o2 ?_
  have z:=ih m (pre++[(f,cs)]) (by omega) (fun s hs=>h240 s (mem_cons_of_mem _ hs)) f' cs' l rfl (fun s hs=>by
   rcases mem_append.mp hs with hs|hs
   ·have:=hpre s hs;omega
   ·rw [mem_singleton.mp hs];exact hp) (by rw [length_append,length_singleton];omega)
  rw [append_assoc] at z
  exact z
theorem b3l {l:List (Fr×List Int)} (r:Run bs rs l) (hl:l.length<5000) (h240:∀s∈l,posF s.1<=240) {f:Fr} {cs:List Int} {t:List (Fr×List Int)} (e:l=(f,cs)::t):a5F (.tab []) [a1o bs rs,stD [f] cs,.int 0,.int 300] []=some (.non,.tab (l.map a6o)):=by
 refine fnP_e rfl rfl fun a=>?_
 have z:=tab_walk a l r 5000 [] hl h240 f cs t e (fun s hs=>nomatch hs) (zero_le _)
 show outP 4 a (a23 (eAnd (eUn b3f (eVar 1)) (a8c true 4 (eVar 1))) a4k 5000 [some (.sh (a1o bs rs)),some (.sh (stD [f] cs)),some (.sh (.int 0)),some (.sh (.int 300)),some (.own (.par a (.tab (([]:List (Fr×List Int)).map a6o))))])=_
 rw [z]
 show (if a=a then some (D.non,O.tab (([]++l).map a6o)) else none)=_
 rw [if_pos rfl];rfl
theorem table_eq (hb:a2m bs) {l:List (Fr×List Int)} (r:Run bs rs l) (hl:l.length<5000) (h240:∀s∈l,posF s.1<=240) {t:List (Fr×List Int)} (e:l=(a5m 0,a1j bs)::t):a79 [a1o bs rs,.int 0,.int 300]=okL (l.map rowF):=by
 refine a0x rfl (a0b rfl (a0b (mexpr_s (i:=3) (o:=.tab []) (ds:=[a1o bs rs,stD [a5m 0] (a1j bs),.int 0,.int 300]) (es:=[]) rfl ?_ rfl (b3l r hl h240 e)) (a0b (a0s rfl) (a0b (b48 (range2_e rfl (a0c rfl rfl rfl) rfl rfl) rfl) (a0I ?_)))))
 ·unfold a1B a1B a1B a1B a1B
  have q:∀ρ:MEnv,ρ[0]?=some (some (.sh (a1o bs rs)))->a0v a8a [(eVar 0)] ρ=okD (stD [a5m 0] (a1j bs)):=fun ρ h=>a0W (a02 h) (begin_eq hb)
  rw [q _ rfl]
  rfl
 ·rw [items_e (i:=3) (o:=.tab (l.map a6o)) rfl rfl,map_map];rfl
end
theorem law_true (ns:List Int) (hns:ns.length<=63):f_law [.lst (ns.map D.int)]=some (.ok (.sh (.bl true))):=by
 have m1:=a1G (ns:=ns) (k:=1) (by decide) (by decide)
 obtain ⟨b,hbb⟩:∃b:Nat,mixV ns 1 % 3=b:=⟨(mixV ns 1 % 3).toNat,by have:=emod_nonneg (mixV ns 1) (b:=3) (by decide);omega⟩
 have hb6:b<=6:=by have:=emod_lt_of_pos (mixV ns 1) (b:=3) (by decide);omega
 obtain ⟨bs,rs,hpe,ok⟩:=b4w ns (bells:=b) (longest:=12) (rest:=9) hb6 ⟨by decide,by decide⟩ ⟨by decide,by decide⟩
 have hb:=ok.box
 have hl:1<=rs.length:=by have:=ok.len;omega
 have hr:∀r∈rs,∀q∈r.pl,q.1.Ok bs:=fun r hr q hq=>((ok.row r hr).2.2 q hq).1
 have hT:=b3p hb
 have hsl:=b4j bs
 have h12:(a1A rs 0).pl.length<=12:=by rw [←a6g (show 0<rs.length by omega)];exact (ok.row _ (getElem_mem _)).2.1
 have w0:WF bs rs [a5m 0] (a1j bs) 1:=⟨fun f hf=>by rw [mem_singleton.mp hf];exact b0s hb hr (by omega) (zero_le _),⟨_,_,rfl,rfl⟩,hsl,le_refl _⟩
 obtain ⟨t,r,hlen,hw⟩:=run_ok hb hr h12 241 (a5m 0) (a1j bs) (by show 241<=0+241;decide) (zero_le _) w0 rfl (fun _ _ _ _ _ _ h1 _=>absurd (show 1<=0 from h1) (by decide))
 generalize hlv:(a5m 0,a1j bs)::t=l at r hlen hw
 have pn:Pn 6 (.lst (l.map rowF)):=.lst 5 _ (fun d hd=>by
  obtain ⟨s,hs,rfl⟩:=mem_map.mp hd
  have wf:=(hw s hs).1
  refine .tup 4 _ (fun d hd=>?_) (by show 2<=lim;decide)
  rcases mem_cons.mp hd with rfl|hd
  ·exact pn_st (fun f hf=>by have:=(wf.fr f hf).2.1;omega) (by show 1<=1000;decide) (by have:=wf.len;omega)
  ·rw [mem_singleton.mp hd];exact .int 4 0) (by rw [length_map];exact le_trans hlen (by decide))
 have te:=table_eq hb r (by omega) (fun s hs=>(hw s hs).2) hlv.symm
 have lw:=b6T (bs:=bs) (rs:=rs) (.sh (.lst (ns.map D.int))) l r 5000 [] (by omega) (by rw [length_nil];omega) (a5m 0) (a1j bs) t hlv.symm
 have hdf:∀ρ:MEnv,ρ[1]?=some (some (.sh (a1o bs rs)))->b0u a79 300 [(eVar 1),(eC (.int 0))] ρ=okL (l.map rowF):=fun ρ h=>by
  unfold b0u a0X;rw [a02 h];exact te
 refine a0x rfl (a0b (a0s (a7e (s2:=.sh (.int (b:Int))) rfl (a0c (a0S rfl rfl m1) rfl ?_) rfl rfl hpe)) (a0b (a0s rfl) (a0b (a0s (a0W rfl (b1W hb))) (a0b lw (a1u (a0I (a0S (hdf _ rfl) rfl (b5o pn (by decide)))))))))
 rw [S.val_sh,S.val_sh,a0M (by decide),hbb]
end Bell
set_option maxHeartbeats 8000000
namespace Bell
open PySem PySem.Spec PyProof.Rows L2 L3
def top (i:Nat):Stmt:=PySem.Challenge.pw_bellnest_k63_table_without_enterings.main.body.getD i (.Pass ⟨0,0,0,0⟩)
abbrev a3f:Stmt:=top 50
def b2V:List Str:=["_law_found","_law_due","_law_k"]
def a3W:List Str:=["_law_found","_law_due"]
abbrev a3e:Stmt:=top 45
def b2U:List Str:=["_law_program_here","_law_cells_here","_law_box"]
def a3V:List Str:=["_law_program_here"]
abbrev a1z:Stmt:=top 48
def a7X:List Str:=["_law_turn","_law_cells_here","_law_hand","_law_at"]
def a1V:List Str:=["_law_turn","_law_cells_here","_law_hand"]
abbrev a3c:Stmt:=top 46
def b2S:List Str:=["_law_boxes_here","_law_x","_law_first","_law_k","_law_y"]
def a3T:List Str:=["_law_boxes_here","_law_x"]
abbrev a3a:Stmt:=top 47
def b2Q:List Str:=["_law_boxes_here","_law_deed_here","_law_own","_law_turns_here","_law_other","_law_tally","_law_k","_law_cell"]
def a3S:List Str:=["_law_boxes_here","_law_deed_here"]
abbrev a2B:Stmt:=top 49
def b1C:List Str:=["_law_program_here","_law_state","_law_frame","_law_under","_law_places","_law_turns_here","_law_turn","_law_done"]
def a3s:List Str:=["_law_program_here","_law_state"]
abbrev a3b:Stmt:=top 39
def b2R:List Str:=["_law_script","_law_k","_law_cell","_law_v"]
def a1t:List Str:=["_law_script","_law_k"]
abbrev a2A:Stmt:=top 40
def b1B:List Str:=["_law_script","_law_k","_law_a","_law_b"]
def a2J:List Str:=["_law_script","_law_k"]
abbrev a3d:Stmt:=top 41
def b2T:List Str:=["_law_script","_law_size","_law_many","_law_boxes_here","_law_x","_law_at","_law_starts","_law_other"]
def a3U:List Str:=["_law_script"]
abbrev a3K:Stmt:=top 42
def b4K:List Str:=["_law_script","_law_k","_law_boxes_here","_law_rest","_law_kind","_law_pick","_law_n","_law_x","_law_size","_law_mates","_law_mate","_law_tallies","_law_gap","_law_y","_law_t"]
def a4y:List Str:=["_law_script","_law_k","_law_boxes_here","_law_rest"]
abbrev a4t:Stmt:=top 43
def b6C:List Str:=["_law_script","_law_k","_law_boxes_here","_law_bells","_law_longest","_law_rest","_law_places","_law_p","_law_at","_law_word","_law_shut"]
def a5g:List Str:=["_law_script","_law_k","_law_boxes_here","_law_bells","_law_longest","_law_rest"]
abbrev a2a:Stmt:=top 44
def b0d:List Str:=["_law_script","_law_bells","_law_longest","_law_rest","_law_boxes_here","_law_rows","_law_b","_law_at","_law_rank"]
def a2T:List Str:=["_law_script","_law_bells","_law_longest","_law_rest"]
abbrev a29:Stmt:=top 22
def b2P:List Str:=["program","row"]
def a3j:List Str:=["program","row"]
abbrev a4w:Stmt:=top 23
def b6F:List Str:=["program","row","place"]
def a5j:List Str:=["program","row","place"]
abbrev a4s:Stmt:=top 4
def b6B:List Str:=["boxes","x"]
def a5f:List Str:=["boxes","x"]
abbrev a3M:Stmt:=top 5
def b4M:List Str:=["boxes","x","first","k"]
def a4z:List Str:=["boxes","x"]
abbrev a5w:Stmt:=a1l (top 9) 0
def n_i_Deed:List Str:=["self","plan"]
def a3o:List Str:=["self","plan"]
abbrev a3L:Stmt:=a1l (top 17) 0
def b4L:List Str:=["self","sources","targets","cell"]
def a3O:List Str:=["self","sources","targets"]
abbrev a5y:Stmt:=a1l (top 19) 0
def n_i_Anew:List Str:=["self","targets","sources","tally"]
def a6t:List Str:=["self","targets","sources","tally"]
abbrev a3h:Stmt:=a1l (top 10) 0
def b2X:List Str:=["self","watched"]
def a3k:List Str:=["self","watched"]
abbrev a2c:Stmt:=a1l (top 11) 0
def b0f:List Str:=["self","left","right"]
def a2V:List Str:=["self","left","right"]
abbrev a5x:Stmt:=a1l (top 15) 0
def n_i_Copy:List Str:=["self","targets","sources","k"]
def a6s:List Str:=["self","targets","sources"]
abbrev a5v:Stmt:=a1l (top 18) 0
def n_i_Grow:List Str:=["self","targets","number"]
def a6r:List Str:=["self","targets","number"]
abbrev a64:Stmt:=a1l (top 14) 0
def n_i_Put:List Str:=["self","targets","numbers","cell"]
def a7S:List Str:=["self","targets","numbers"]
abbrev a4u:Stmt:=a1l (top 13) 0
def b6D:List Str:=["self","number"]
def a5h:List Str:=["self","number"]
abbrev a5u:Stmt:=a1l (top 16) 0
def n_i_Tick:List Str:=["self","target"]
def a6q:List Str:=["self","target"]
abbrev a2b:Stmt:=a1l (top 12) 0
def b0e:List Str:=["self"]
def a2U:List Str:=["self"]
abbrev a4v:Stmt:=top 20
def b6E:List Str:=["boxes","deed","kind","first","second"]
def a5i:List Str:=["boxes","deed"]
abbrev a3g:Stmt:=top 24
def b2W:List Str:=["program","frame"]
def a3X:List Str:=["program","frame"]
abbrev a2F:Stmt:=a1l (top 9) 2
def b1G:List Str:=["self","turn"]
def a1W:List Str:=["self","turn"]
abbrev a2d:Stmt:=a1l (top 17) 1
def b0g:List Str:=["self","turn","cells","hand"]
def a2f:List Str:=["self","turn","cells","hand"]
abbrev a4r:Stmt:=top 8
def b6A:List Str:=["cells","cell","number"]
def a3r:List Str:=["cells","cell","number"]
abbrev a2E:Stmt:=a1l (top 9) 1
def b1F:List Str:=["self"]
def a2K:List Str:=["self"]
abbrev a2e:Stmt:=a1l (top 9) 3
def b0h:List Str:=["self","turn"]
def a1p:List Str:=["self","turn"]
abbrev a1d:Stmt:=a1l (top 17) 2
def a7a:List Str:=["self","turn","cells","hand","number","behind","kept"]
def a1e:List Str:=["self","turn","cells","hand","number"]
abbrev a2I:Stmt:=a1l (top 19) 1
def b1J:List Str:=["self","turn","cells","hand"]
def a3x:List Str:=["self","turn","cells","hand"]
abbrev a2H:Stmt:=a1l (top 15) 1
def b1I:List Str:=["self","turn","cells","hand","number"]
def a3w:List Str:=["self","turn","cells","hand"]
abbrev a2G:Stmt:=a1l (top 9) 4
def b1H:List Str:=["self","turn","cells","hand"]
def a3v:List Str:=["self","turn","cells","hand"]
abbrev a2D:Stmt:=a1l (top 18) 1
def b1E:List Str:=["self","turn","cells","hand"]
def a3u:List Str:=["self","turn","cells","hand"]
abbrev a3i:Stmt:=a1l (top 14) 1
def b2Y:List Str:=["self","turn","cells","hand"]
def a3Y:List Str:=["self","turn","cells","hand"]
abbrev a2C:Stmt:=a1l (top 16) 1
def b1D:List Str:=["self","turn","cells","hand","cell"]
def a3t:List Str:=["self","turn","cells","hand"]
abbrev a5t:Stmt:=top 29
def n_turned:List Str:=["program","pile","cells","top","deed","left","frame"]
def a6p:List Str:=["program","pile","cells"]
abbrev a5z:Stmt:=top 34
def n_behind:List Str:=["program","state"]
def a6u:List Str:=["program","state"]
abbrev a3N:Stmt:=top 36
def b4N:List Str:=["program","state","price","most","prices"]
def a4A:List Str:=["program","state","price","most","prices"]
abbrev a26:Stmt:=top 6
def b2O:List Str:=["boxes","starts","box"]
def a3R:List Str:=["boxes"]
abbrev a65:Stmt:=top 31
def n_begin:List Str:=["program"]
def a7T:List Str:=["program"]
abbrev a63:Stmt:=top 37
def n_table:List Str:=["program","many","most","prices","count","price","last","state","bell"]
def a7R:List Str:=["program","many","most"]
abbrev b2C:Stmt:=top 51
def n_law:List Str:=["_law_script","_law_program_here","_law_due","_law_state"]
def p_law:List Str:=["_law_script"]
structure Blt (mg:Str->Option Value):Prop where
 abs:mg "abs" = none
 all:mg "all" = none
 bool:mg "bool" = none
 int:mg "int" = none
 isinstance:mg "isinstance" = none
 len:mg "len" = none
 list:mg "list" = none
 range:mg "range" = none
 set:mg "set" = none
 sorted:mg "sorted" = none
 str:mg "str" = none
 sum:mg "sum" = none
 tuple:mg "tuple" = none
structure Defs (K:Frag) (mg:Str->Option Value) (cls:String->Addr):Prop where
 L_law_alike:Laid K mg "_law_alike" a3f a3W
 L_law_begin:Laid K mg "_law_begin" a3e a3V
 L_law_turn_done:Laid K mg "_law_turn_done" a1z a1V
 L_law_cells:Laid K mg "_law_cells" a3c a3T
 L_law_turns:Laid K mg "_law_turns" a3a a3S
 L_law_behind:Laid K mg "_law_behind" a2B a3s
 L_law_mixed:Laid K mg "_law_mixed" a3b a1t
 L_law_number:Laid K mg "_law_number" a2A a2J
 L_law_boxes:Laid K mg "_law_boxes" a3d a3U
 L_law_deed:Laid K mg "_law_deed" a3K a4y
 L_law_row:Laid K mg "_law_row" a4t a5g
 L_law_program:Laid K mg "_law_program" a2a a2T
 L_places_of:Laid K mg "places_of" a29 a3j
 L_deed_at:Laid K mg "deed_at" a4w a5j
 L_size_of:Laid K mg "size_of" a4s a5f
 L_cells_of:Laid K mg "cells_of" a3M a4z
 L_i_Deed:a3J K mg cls "Deed" "Deed" "Deed.__init__" a5w a3o
 L_i_Handed:a3J K mg cls "Handed" "Handed" "Handed.__init__" a3L a3O
 L_i_Anew:a3J K mg cls "Anew" "Anew" "Anew.__init__" a5y a6t
 L_i_Promise:a3J K mg cls "Promise" "Promise" "Promise.__init__" a3h a3k
 L_i_Comparing:a3J K mg cls "Comparing" "Comparing" "Comparing.__init__" a2c a2V
 L_i_Copy:a3J K mg cls "Copy" "Copy" "Copy.__init__" a5x a6s
 L_i_Grow:a3J K mg cls "Grow" "Grow" "Grow.__init__" a5v a6r
 L_i_Put:a3J K mg cls "Put" "Put" "Put.__init__" a64 a7S
 L_i_Still:a3J K mg cls "Still" "Still" "Still.__init__" a4u a5h
 L_i_Tick:a3J K mg cls "Tick" "Tick" "Tick.__init__" a5u a6q
 L_i_Untouched:a3J K mg cls "Untouched" "Untouched" "Untouched.__init__" a2b a2U
 L_deed_of:Laid K mg "deed_of" a4v a5i
 L_is_at_end:Laid K mg "is_at_end" a3g a3X
 L_Deed_reads:a3I K cls "reads" "Deed.reads" a2F a1W ["Deed","Promise","Comparing","Untouched","Still","Put","Copy","Tick","Handed","Grow","Anew"]
 L_Handed_laid:a3I K cls "laid" "Handed.laid" a2d a2f ["Handed","Grow","Anew"]
 L_written:Laid K mg "written" a4r a3r
 L_Deed_turns:a3I K cls "turns" "Deed.turns" a2E a2K ["Deed","Promise","Comparing","Untouched","Still","Put","Copy","Tick","Handed","Grow","Anew"]
 L_Deed_writes:a3I K cls "writes" "Deed.writes" a2e a1p ["Deed","Promise","Comparing","Untouched","Still","Put","Copy","Tick","Handed","Grow","Anew"]
 L_Handed_set_down:a3I K cls "set_down" "Handed.set_down" a1d a1e ["Handed","Grow","Anew"]
 L_Anew_after:a3I K cls "after" "Anew.after" a2I a3x ["Anew"]
 L_Copy_after:a3I K cls "after" "Copy.after" a2H a3w ["Copy"]
 L_Deed_after:a3I K cls "after" "Deed.after" a2G a3v ["Deed","Promise","Comparing","Untouched","Still","Handed"]
 L_Grow_after:a3I K cls "after" "Grow.after" a2D a3u ["Grow"]
 L_Put_after:a3I K cls "after" "Put.after" a3i a3Y ["Put"]
 L_Tick_after:a3I K cls "after" "Tick.after" a2C a3t ["Tick"]
 L_turned:Laid K mg "turned" a5t a6p
 L_behind:Laid K mg "behind" a5z a6u
 L_add_walk:Laid K mg "add_walk" a3N a4A
 L_starts_of:Laid K mg "starts_of" a26 a3R
 L_begin:Laid K mg "begin" a65 a7T
 L_table:LaidD K mg "table" a63 a7R (300)
 L_law:Laid K mg "law" b2C p_law
 fld_check:∀c∈["Anew"],Cls K (cls c)/\a1C K (cls c) "check"
 fld_number:∀c∈["Grow"],Cls K (cls c)/\a1C K (cls c) "number"
 fld_numbers:∀c∈["Put"],Cls K (cls c)/\a1C K (cls c) "numbers"
 fld_plan:∀c∈["Deed","Promise","Comparing","Untouched","Still","Put","Copy","Tick","Handed","Grow","Anew"],Cls K (cls c)/\a1C K (cls c) "plan"
 fld_size:∀c∈["Grow"],Cls K (cls c)/\a1C K (cls c) "size"
seal PySem.wpAny
section
variable {P:Program} {w:World} {K:Frag} {mg:Str->Option Value} {base:Heap} {cls:String->Addr}
theorem a7k:a0r b2V a3W (a0g a3f):=⟨rfl,rfl,rfl,by decide +kernel,rfl,by decide +kernel,by decide +kernel⟩
theorem b1w (L:Laid K mg "_law_alike" a3f a3W) (Z:Blt mg)  : FnN P w K mg base (ctOf K cls) 9 "_law_alike" a3W a4S:=
 b49 (k:=1) L a7k (fun f G j hj hG cdv A outer s H E hr=>
 (a0f (a0H (PWD.pt (a8X (a4H (a5Q rfl (a73 _) rfl Z.isinstance rfl Z.tuple L3.a2v (a0a (pv 1)))) (a66 (a4H (a5Q rfl (b0m _) rfl Z.isinstance rfl Z.list L3.a58 (a0a (pv 1)))))))
 (a0f (a0H (PWD.pt (a2j (a4H (a5Q rfl (a73 _) rfl Z.isinstance rfl Z.tuple L3.a2v (a0a (pv 1)))) (a1Q (b6b (a4H (a5Q rfl (a73 _) rfl Z.isinstance rfl Z.tuple L3.a2v (a0a (pv 0))))))))
 (a0h (a0j pd_bl))
 a0q)
 (a0f (a0H (PWD.pt (a2j (a4H (a5Q rfl (b0m _) rfl Z.isinstance rfl Z.list L3.a58 (a0a (pv 1)))) (a1Q (b6b (a4H (a5Q rfl (b0m _) rfl Z.isinstance rfl Z.list L3.a58 (a0a (pv 0))))))))
 (a0h (a0j pd_bl))
 a0q)
 (a0f (a0H (a0o a7V (a0U (a1i rfl) rfl Z.len PySem.boot_len (a0G (a0K (pv 0)) a0V)) (a0U (a1i rfl) rfl Z.len PySem.boot_len (a0G (a0K (pv 1)) a0V)))
 (a0h (a0j pd_bl))
 a0q)
 (a0h (a0j (b3G (cd_all rfl rfl) rfl Z.all L3.bt_all (a1w (a2S (js:=[2]) (vars:=[".0","_law_k"]) (a07 2) (by rfl) (by rfl) rfl (a00 rfl Z.range (a0U (a1i rfl) rfl Z.len PySem.boot_len (a0G (a0K (pv 1)) a0V))) (fun _ _ _ _=>(pbN a7k.nd rfl)) (fun _ _ _ _=>(a08 hG hr rfl (padS (a0i (ixd rfl) (a0a (pv 0)) (a0a (pv 2))) (padS (a0i (ixd rfl) (a0a (pv 1)) (a0a (pv 2))) a0d))))) a0d)))))))
 a0q)
 (a0f (a0H (ptd_isN (a0a (pv 1)))
 (a0h (a0j (pd_isN (a0a (pv 0)))))
 a0q)
 (a0f (a0H (a4H (a5Q rfl (b6U _) rfl Z.isinstance rfl Z.str L3.bt_str (a0a (pv 1))))
 (a0h (a0j (b6p (a5Q rfl (b6U _) rfl Z.isinstance rfl Z.str L3.bt_str (a0a (pv 0))) (pd_one (b3F a0L (a0a (pv 0)) (a0a (pv 1)))))))
 a0q)
 (a0h (a0j (b6p (a5Q rfl (kit_int _) rfl Z.isinstance rfl Z.int L3.bt_int (a0a (pv 0))) (b6p (pd_not (a5Q rfl (kit_bool _) rfl Z.isinstance rfl Z.bool L3.bt_bool (a0a (pv 0)))) (pd_one (b3F a0L (a0a (pv 0)) (a0a (pv 1)))))))))))) 8
theorem a4b:a0r b2U a3V (a0g a3e):=⟨rfl,rfl,rfl,by decide +kernel,rfl,by decide +kernel,by decide +kernel⟩
theorem b1v (L:Laid K mg "_law_begin" a3e a3V) (Z:Blt mg)  : FnN P w K mg base (ctOf K cls) 1 "_law_begin" a3V a4R:=
 a1m (k:=0) L a4b fun f cdv A outer s H E hr=>
 (a0f (psS (i:=1) a4b.nd rfl (a1U a0d))
 (a0f (a67 PassesOwn.never rfl (a5Z rfl (a0i (ixd rfl) (a0a (pv 0)) a0e)) (pbN a4b.nd rfl)
 (a0B (i:=1) (a0h (psS (i:=1) a4b.nd rfl (a0t (a0n rfl) (a0a (pv 1)) (a6m (b0z rfl) rfl Z.list L3.a58 (padS (a0i (ixd rfl) (a0a (pv 2)) a0e) a0d)))))))
 (a0B (i:=1) (a0h (a0j (a0l (padT (a0l (padT (a0l (padC a0e (padC a0e (padC a0e (padT (a0l a0d) a0d))))) a0d)) (padK (a6m (a3H rfl) rfl Z.tuple L3.a2v (padN (a0a (pv 1)) a0d)) a0d))))))))
theorem a2s:a0r a7X a1V (a0g a1z):=⟨rfl,rfl,rfl,by decide +kernel,rfl,by decide +kernel,by decide +kernel⟩
theorem a7q (L:Laid K mg "_law_turn_done" a1z a1V) (Z:Blt mg)  : FnN P w K mg base (ctOf K cls) 1 "_law_turn_done" a1V a2Z:=
 a1m (k:=0) L a2s fun f cdv A outer s H E hr=>
 (a0B (i:=1) (a0f (psS (i:=1) a2s.nd rfl (a6m (b0z rfl) rfl Z.list L3.a58 (padN (a0a (pv 1)) a0d)))
 (a0f (psS (i:=3) a2s.nd rfl (a0i (ixd rfl) (a0a (pv 0)) a0e))
 (a0f (a0H (a0o a0L (a0i (ixd rfl) (a0a (pv 0)) a0e) a0R)
 (a0h (a4I (i:=1) (pv 1) (a0a (pv 3)) (a0i (ixd rfl) (a0a (pv 0)) a0e)))
 a0q)
 (a0f (a0H (a0o a0L (a0i (ixd rfl) (a0a (pv 0)) a0e) a0R)
 (a0h (a4I (i:=1) (pv 1) (a0a (pv 3)) (a0t (a0n rfl) (pd_ixB rfl (a0K (pv 1)) (PD.look (a0a (pv 3)))) a0e)))
 a0q)
 (a0f (a0H (a0o a0L (a0i (ixd rfl) (a0a (pv 0)) a0e) a0R)
 (a0h (a4I (i:=1) (pv 1) (a0a (pv 3)) (pd_ixB rfl (a0K (pv 1)) (PD.look (a0i (ixd rfl) (a0a (pv 0)) a0e)))))
 a0q)
 (a0f (a0H (a0o a0L (a0i (ixd rfl) (a0a (pv 0)) a0e) a0R)
 (a0B (i:=1) (a0h (psS (i:=2) a2s.nd rfl (a0t (a0n rfl) (a0a (pv 2)) (a0l (padS (a0i (ixd rfl) (a0a (pv 1)) (a0a (pv 3))) a0d))))))
 a0q)
 (a0f (a0H (a0o a0L (a0i (ixd rfl) (a0a (pv 0)) a0e) a0R)
 (a0h (a4I (i:=1) (pv 1) (a0a (pv 3)) (a0t (a0n rfl) (a0i (ixd rfl) (a0a (pv 2)) (a0i (ixd rfl) (a0i (ixd rfl) (a0a (pv 0)) a0e) a0e)) (a0i (ixd rfl) (a0i (ixd rfl) (a0a (pv 0)) a0e) a0e))))
 a0q)
 (a0B (i:=1) (a0h (a0j (a0l (padK (a6m (a3H rfl) rfl Z.tuple L3.a2v (padN (a0a (pv 1)) a0d)) (padN (a0a (pv 2)) a0d))))))))))))))
theorem a4a:a0r b2S a3T (a0g a3c):=⟨rfl,rfl,rfl,by decide +kernel,rfl,by decide +kernel,by decide +kernel⟩
theorem b1t (L:Laid K mg "_law_cells" a3c a3T) (Z:Blt mg)  : FnN P w K mg base (ctOf K cls) 1 "_law_cells" a3T a2w:=
 a1m (k:=0) L a4a fun f cdv A outer s H E hr=>
 (a0f (psS (i:=2) a4a.nd rfl (b3G (cd_sum rfl rfl) rfl Z.sum L3.bt_sum (a1w (a2S (js:=[4]) (vars:=[".0","_law_y"]) (a07 4) (by rfl) (by rfl) rfl (a00 rfl Z.range (a0a (pv 1))) (fun _ _ _ _=>(pbN a4a.nd rfl)) (fun _ _ _ _=>(a0U (a1i rfl) rfl Z.len PySem.boot_len (a0G (PD.look (a0i (ixd rfl) (a0i (ixd rfl) (a0a (pv 0)) (a0a (pv 4))) a0e)) a0V)))) a0d)))
 (a0h (a0j (a2S (js:=[3]) (vars:=[".0","_law_k"]) (a07 3) (by rfl) (by rfl) rfl (a00 rfl Z.range (a0U (a1i rfl) rfl Z.len PySem.boot_len (a0G (PD.look (a0i (ixd rfl) (a0i (ixd rfl) (a0a (pv 0)) (a0a (pv 1))) a0e)) a0V))) (fun _ _ _ _=>(pbN a4a.nd rfl)) (fun _ _ _ _=>(a0t (a0n rfl) (a0a (pv 2)) (a0a (pv 3))))))))
theorem a0T:a0r b2Q a3S (a0g a3a):=⟨rfl,rfl,rfl,by decide +kernel,rfl,by decide +kernel,by decide +kernel⟩
theorem b1r (L:Laid K mg "_law_turns" a3a a3S) (Z:Blt mg) (H_law_cells:FnN P w K mg base (ctOf K cls) 1 "_law_cells" a3T a2w):FnN P w K mg base (ctOf K cls) 2 "_law_turns" a3S a4P:=
 a1m (k:=1) L a0T fun f cdv A outer s H E hr=>
 (a0f (a0H (a0o a0L (a0i (ixd rfl) (a0a (pv 1)) a0e) a0R)
 (a0h (a0j (a2S (js:=[6]) (vars:=[".0","_law_k"]) (a07 6) (by rfl) (by rfl) rfl (a00 rfl Z.range (a0i (ixd rfl) (a0a (pv 1)) a0e)) (fun _ _ _ _=>(pbN a0T.nd rfl)) (fun _ _ _ _=>(a0l (padC a0R (padC a0e (padC a0e a0d))))))))
 a0q)
 (a0f (psS (i:=2) a0T.nd rfl (a08 H_law_cells (hr.mono (by first|decide|omega)) rfl (padN (a0a (pv 0)) (padS (a0i (ixd rfl) (a0a (pv 1)) a0e) a0d))))
 (a0f (a0H (a0o a0L (a0i (ixd rfl) (a0a (pv 1)) a0e) a0R)
 (a0B (i:=2) (a0h (a0j (a2S (js:=[6]) (vars:=[".0","_law_k"]) (a07 6) (by rfl) (by rfl) rfl (a00 rfl Z.range (a0U (a1i rfl) rfl Z.len PySem.boot_len (a0G (a0K (pv 2)) a0V))) (fun _ _ _ _=>(pbN a0T.nd rfl)) (fun _ _ _ _=>(a0l (padC a0R (padS (a0i (ixd rfl) (a0a (pv 2)) (a0a (pv 6))) (padS (a0i (ixd rfl) (a0i (ixd rfl) (a0a (pv 1)) a0e) (a0a (pv 6))) a0d)))))))))
 a0q)
 (a0f (a0H (a0o a0L (a0i (ixd rfl) (a0a (pv 1)) a0e) a0R)
 (a0B (i:=2) (a0h (a0j (a1U (padT (a0l (padC a0R (padS (a0i (ixd rfl) (a0a (pv 2)) a0e) (padC a0e a0d)))) a0d)))))
 a0q)
 (a0f (a0H (a0o a0L (a0i (ixd rfl) (a0a (pv 1)) a0e) a0R)
 (a0B (i:=2) (a0f (psd_comp (i:=3) a0T.nd rfl (by first|exact Or.inl rfl|exact Or.inr rfl) (js:=[7]) (vars:=[".0","_law_cell"]) (a07 7) (by rfl) (by rfl) rfl (a5Z rfl (a0a (pv 2))) (fun _ _ _ _=>(pbN a0T.nd rfl)) (fun _ _ _ _=>(a0l (padC a0R (padN (a0a (pv 7)) (padC a0e a0d))))))
 (a0B (i:=3) (a0B (i:=2) (a0h (a0j (a0t (a0n rfl) (a0a (pv 3)) (a2S (js:=[6]) (vars:=[".0","_law_k"]) (a07 6) (by rfl) (by rfl) rfl (a00 rfl Z.range (a0U (a1i rfl) rfl Z.len PySem.boot_len (a0G (a0K (pv 2)) a0V))) (fun _ _ _ _=>(pbN a0T.nd rfl)) (fun _ _ _ _=>(a0l (padC a0R (padS (a0i (ixd rfl) (a0a (pv 2)) (a0a (pv 6))) (padT (a0l (padN (a0a (pv 6)) (padS (a0i (ixd rfl) (a0a (pv 1)) a0e) a0d))) a0d)))))))))))))
 a0q)
 (a0f (a0H (a0o a0L (a0i (ixd rfl) (a0a (pv 1)) a0e) a0R)
 (a0f (psS (i:=4) a0T.nd rfl (a08 H_law_cells (hr.mono (by first|decide|omega)) rfl (padN (a0a (pv 0)) (padS (a0i (ixd rfl) (a0a (pv 1)) a0e) a0d))))
 (a0B (i:=4) (a0B (i:=2) (a0h (a0j (a2S (js:=[6]) (vars:=[".0","_law_k"]) (a07 6) (by rfl) (by rfl) rfl (a00 rfl Z.range (a0U (a1i rfl) rfl Z.len PySem.boot_len (a0G (a0K (pv 2)) a0V))) (fun _ _ _ _=>(pbN a0T.nd rfl)) (fun _ _ _ _=>(a0l (padC a0R (padS (a0i (ixd rfl) (a0a (pv 2)) (a0a (pv 6))) (padS (a0i (ixd rfl) (a0a (pv 4)) (a0a (pv 6))) a0d)))))))))))
 a0q)
 (a0f (a0H (a0o a0L (a0i (ixd rfl) (a0a (pv 1)) a0e) a0R)
 (a0f (psS (i:=5) a0T.nd rfl (a0i (ixd rfl) (a08 H_law_cells (hr.mono (by first|decide|omega)) rfl (padN (a0a (pv 0)) (padS (a0i (ixd rfl) (a0a (pv 1)) a0e) a0d))) a0e))
 (a0f (psS (i:=3) a0T.nd rfl (a0t (a0n rfl) (a1U (padT (a0l (padC a0R (padN (a0a (pv 5)) (padC a0e a0d)))) a0d)) (a2S (js:=[7]) (vars:=[".0","_law_cell"]) (a07 7) (by rfl) (by rfl) rfl (a5Z rfl (a08 H_law_cells (hr.mono (by first|decide|omega)) rfl (padN (a0a (pv 0)) (padS (a0i (ixd rfl) (a0a (pv 1)) a0e) a0d)))) (fun _ _ _ _=>(pbN a0T.nd rfl)) (fun _ _ _ _=>(a0l (padC a0R (padN (a0a (pv 7)) (padC a0e a0d))))))))
 (a0B (i:=3) (a0B (i:=2) (a0h (a0j (a0t (a0n rfl) (a0t (a0n rfl) (a0a (pv 3)) (a1U (padT (a0l (padC a0R (padN (a0a (pv 5)) (padC a0e a0d)))) a0d))) (a2S (js:=[6]) (vars:=[".0","_law_k"]) (a07 6) (by rfl) (by rfl) rfl (a00 rfl Z.range (a0U (a1i rfl) rfl Z.len PySem.boot_len (a0G (a0K (pv 2)) a0V))) (fun _ _ _ _=>(pbN a0T.nd rfl)) (fun _ _ _ _=>(a0l (padC a0R (padS (a0i (ixd rfl) (a0a (pv 2)) (a0a (pv 6))) (padT (a0l (padB (a0t (a0n rfl) (a0a (pv 6)) a0e) (padC a0e a0d))) a0d)))))))))))))
 a0q)
 (a0h (a0j (a1U (padT (a0l (padC a0R (padC a0e (padC a0e a0d)))) a0d)))))))))))
theorem a1D:a0r b1C a3s (a0g a2B):=⟨rfl,rfl,rfl,by decide +kernel,rfl,by decide +kernel,by decide +kernel⟩
theorem a94 (L:Laid K mg "_law_behind" a2B a3s) (Z:Blt mg) (H_law_turn_done:FnN P w K mg base (ctOf K cls) 1 "_law_turn_done" a1V a2Z) (H_law_turns:FnN P w K mg base (ctOf K cls) 2 "_law_turns" a3S a4P):FnN P w K mg base (ctOf K cls) 3 "_law_behind" a3s a16:=
 a1m (k:=2) L a1D fun f cdv A outer s H E hr=>
 (a0f (psS (i:=2) a1D.nd rfl (a0i (ixd rfl) (a0i (ixd rfl) (a0a (pv 1)) a0e) b1l))
 (a0f (psS (i:=3) a1D.nd rfl (a6n rfl (a0i (ixd rfl) (a0a (pv 1)) a0e) a6i (a6h b1l)))
 (a0f (psS (i:=4) a1D.nd rfl (a0i (ixd rfl) (a0i (ixd rfl) (a0i (ixd rfl) (a0a (pv 0)) a0e) (a0i (ixd rfl) (a0a (pv 2)) a0e)) a0e))
 (a0f (a0H (a0o a0L (a0i (ixd rfl) (a0a (pv 2)) a0e) (a0U (a1i rfl) rfl Z.len PySem.boot_len (a0G (a0K (pv 4)) a0V)))
 (a0h (a0j pd_non))
 a0q)
 (a0f (psS (i:=5) a1D.nd rfl (a08 H_law_turns (hr.mono (by first|decide|omega)) rfl (padS (a0i (ixd rfl) (a0a (pv 0)) a0e) (padS (a0i (ixd rfl) (a0i (ixd rfl) (a0a (pv 4)) (a0i (ixd rfl) (a0a (pv 2)) a0e)) a0e) a0d))))
 (a0B (i:=5) (a0f (psS (i:=6) a1D.nd rfl (a0i (ixd rfl) (a0a (pv 5)) (a0i (ixd rfl) (a0a (pv 2)) a0e)))
 (a0f (psS (i:=7) a1D.nd rfl (a08 H_law_turn_done (hr.mono (by first|decide|omega)) rfl (padN (a0a (pv 6)) (padS (a0i (ixd rfl) (a0a (pv 1)) a0e) (padS (a0i (ixd rfl) (a0a (pv 2)) a0e) a0d)))))
 (a0f (a0H (PWD.pt (a2j (a0o a0L (a0i (ixd rfl) (a0a (pv 6)) a0e) a0R) (a1Q (a0o a7V (a0i (ixd rfl) (a0i (ixd rfl) (a0a (pv 1)) a0e) (a0i (ixd rfl) (a0a (pv 6)) a0e)) (a0i (ixd rfl) (a0i (ixd rfl) (a0a (pv 2)) a0e) a0e)))))
 (a0h (a0j (a0l (padB (a0t (a0n rfl) (a0a (pv 3)) (a0l (padT (a0l (padS (a0i (ixd rfl) (a0a (pv 2)) a0e) (padS (a0i (ixd rfl) (a0a (pv 2)) a0e) (padC a0e (padT (a0l a0d) a0d))))) a0d))) (padS (a0i (ixd rfl) (a0a (pv 7)) a0e) a0d)))))
 a0q)
 (a0f (a0H (a0o b3H (a0t (a0n rfl) (a0i (ixd rfl) (a0a (pv 2)) a0e) a0e) (a0U (a1i rfl) rfl Z.len PySem.boot_len (a0G (a0K (pv 5)) a0V)))
 (a0h (a0j (a0l (padB (a0t (a0n rfl) (a0a (pv 3)) (a0l (padT (a0l (padS (a0i (ixd rfl) (a0a (pv 2)) a0e) (padS (a0i (ixd rfl) (a0a (pv 2)) a0e) (padB (a0t (a0n rfl) (a0i (ixd rfl) (a0a (pv 2)) a0e) a0e) (padS (a0i (ixd rfl) (a0a (pv 7)) a0e) a0d))))) a0d))) (padS (a0i (ixd rfl) (a0a (pv 7)) a0e) a0d)))))
 a0q)
 (a0f (a0H (PWD.pt (a2j (a0o a7W (a0i (ixd rfl) (a0a (pv 2)) a0e) a0e) (a1Q (a0o a0L (a0t (a0n rfl) (a0i (ixd rfl) (a0a (pv 2)) a0e) a0e) (a0U (a1i rfl) rfl Z.len PySem.boot_len (a0G (a0K (pv 4)) a0V))))))
 (a0h (a0j (a0l (padN (a0a (pv 3)) (padS (a0i (ixd rfl) (a0a (pv 7)) a0e) a0d)))))
 a0q)
 (a0h (a0j (a0l (padB (a0t (a0n rfl) (a0a (pv 3)) (a0l (padT (a0l (padS (a0i (ixd rfl) (a0a (pv 2)) a0e) (padB (a0t (a0n rfl) (a0i (ixd rfl) (a0a (pv 2)) a0e) a0e) (padC a0e (padT (a0l a0d) a0d))))) a0d))) (padS (a0i (ixd rfl) (a0a (pv 7)) a0e) a0d))))))))))))))))
theorem a39:a0r b2R a1t (a0g a3b):=⟨rfl,rfl,rfl,by decide +kernel,rfl,by decide +kernel,by decide +kernel⟩
theorem b1s (L:Laid K mg "_law_mixed" a3b a1t) (Z:Blt mg)  : FnN P w K mg base (ctOf K cls) 1 "_law_mixed" a1t a0y:=
 a1m (k:=0) L a39 fun f cdv A outer s H E hr=>
 (a0f (psS (i:=2) a39.nd rfl a0e)
 (a0f (a0H (a0o a7W (a0U (a1i rfl) rfl Z.len PySem.boot_len (a0G (a0K (pv 0)) a0V)) a0e)
 (a0h (psS (i:=2) a39.nd rfl (a0i (ixd rfl) (a0a (pv 0)) (a0t a01 (a0a (pv 1)) (a0U (a1i rfl) rfl Z.len PySem.boot_len (a0G (a0K (pv 0)) a0V))))))
 a0q)
 (a0f (psS (i:=3) a39.nd rfl (a0t a01 (a0t (a0n rfl) (a0t (a0n rfl) (a0t a3Z (a0t a01 (a0a (pv 2)) a0e) a0e) (a0t a3Z (a0t a3Z (a0a (pv 1)) (a0a (pv 1))) a0e)) a0e) a0e))
 (a0h (a0j (a0t a01 (a0t a3Z (a0a (pv 3)) (a0a (pv 3))) a0e))))))
theorem a4G:a0r b1B a2J (a0g a2A):=⟨rfl,rfl,rfl,by decide +kernel,rfl,by decide +kernel,by decide +kernel⟩
theorem a93 (L:Laid K mg "_law_number" a2A a2J) (Z:Blt mg) (H_law_mixed:FnN P w K mg base (ctOf K cls) 1 "_law_mixed" a1t a0y):FnN P w K mg base (ctOf K cls) 2 "_law_number" a2J a0Q:=
 a1m (k:=1) L a4G fun f cdv A outer s H E hr=>
 (a0f (psS (i:=2) a4G.nd rfl (a08 H_law_mixed (hr.mono (by first|decide|omega)) rfl (padN (a0a (pv 0)) (padN (a0a (pv 1)) a0d))))
 (a0f (psS (i:=3) a4G.nd rfl (a08 H_law_mixed (hr.mono (by first|decide|omega)) rfl (padN (a0a (pv 0)) (padB (a0t (a0n rfl) (a0a (pv 1)) a0e) a0d))))
 (a0f (a0H (a0o a0L (a0t a01 (a0a (pv 2)) a0e) a0e)
 (a0h (a0j (a0t a69 (a0t a01 (a0a (pv 3)) a0e) a0e)))
 a0q)
 (a0f (a0H (a0o a0L (a0t a01 (a0a (pv 2)) a0e) a0e)
 (a0h (a0j (a0i (ixd rfl) (a1U (padB (a0t b2I a0e a0e) (padU (pd_usub (a0t b2I a0e a0e)) a0d))) (a0t a01 (a0a (pv 3)) a0e))))
 a0q)
 (a0h (a0j (a0t a69 (a0t a01 (a0t (a0n rfl) (a0t a3Z (a0a (pv 2)) a0e) (a0a (pv 3))) a0e) a0e)))))))
theorem a1n:a0r b2T a3U (a0g a3d):=⟨rfl,rfl,rfl,by decide +kernel,rfl,by decide +kernel,by decide +kernel⟩
theorem b1u (L:Laid K mg "_law_boxes" a3d a3U) (Z:Blt mg) (H_law_mixed:FnN P w K mg base (ctOf K cls) 1 "_law_mixed" a1t a0y) (H_law_number:FnN P w K mg base (ctOf K cls) 2 "_law_number" a2J a0Q):FnN P w K mg base (ctOf K cls) 3 "_law_boxes" a3U a4Q:=
 a1m (k:=2) L a1n fun f cdv A outer s H E hr=>
 (a0f (psS (i:=1) a1n.nd rfl (a0t (a0n rfl) a0e (a0t a01 (a08 H_law_mixed (hr.mono (by first|decide|omega)) rfl (padN (a0a (pv 0)) (padC a0e a0d))) a0e)))
 (a0f (psS (i:=2) a1n.nd rfl (a08 H_law_mixed (hr.mono (by first|decide|omega)) rfl (padN (a0a (pv 0)) (padC a0e a0d))))
 (a0f (psS (i:=2) a1n.nd rfl (a0i (ixd rfl) (a1U (padB (a0t a01 (a0t a5A (a0a (pv 2)) a0e) a0e) (padB (a0t (a0n rfl) a0e (a0t a01 (a0t a5A (a0a (pv 2)) a0e) a0e)) a0d))) (a6m cd_int rfl Z.int L3.bt_int (a1w (b3F a0L (a0t a01 (a0a (pv 2)) a0e) a0e) a0d))))
 (a0f (psS (i:=3) a1n.nd rfl (a1U a0d))
 (a0f (a67 PassesOwn.never rfl (a00 rfl Z.range (a0a (pv 2))) (pbN a1n.nd rfl)
 (a0f (psS (i:=5) a1n.nd rfl (a0t (a0n rfl) (a0t (a0n rfl) a0e (a0t a3Z a0e (a0a (pv 4)))) (a0t a3Z a0e (a0t a5A (a0a (pv 4)) a0e))))
 (a0f (psS (i:=6) a1n.nd rfl (a1U (padK (a08 H_law_number (hr.mono (by first|decide|omega)) rfl (padN (a0a (pv 0)) (padN (a0a (pv 5)) a0d))) a0d)))
 (a0f (psS (i:=7) a1n.nd rfl (a0t a01 (a08 H_law_mixed (hr.mono (by first|decide|omega)) rfl (padN (a0a (pv 0)) (padB (a0t (a0n rfl) (a0a (pv 5)) a0e) a0d))) a0e))
 (a0f (a0H (PWD.pt (a8X (PWD.pt (a2j (a0o a0L (a0a (pv 1)) a0e) (a1Q (a0o a7W (a0a (pv 7)) (a0i (ixd rfl) (a1U (padC a0e (padC a0e (padC a0e a0d)))) (a0t a01 (a0a (pv 4)) a0e)))))) (a66 (PWD.pt (a2j (a0o a0L (a0a (pv 1)) a0e) (a1Q (a0o a0L (a0a (pv 7)) a0e)))))))
 (a0h (a4x (i:=6) (pv 6) (a08 H_law_number (hr.mono (by first|decide|omega)) rfl (padN (a0a (pv 0)) (padB (a0t (a0n rfl) (a0a (pv 5)) a0e) a0d)))))
 a0q)
 (a0B (i:=6) (a0h (a4x (i:=3) (pv 3) (a0l (padS (a0i (ixd rfl) a0R (a0a (pv 4))) (padK (a6m (a3H rfl) rfl Z.tuple L3.a2v (padN (a0a (pv 6)) a0d)) a0d)))))))))))
 (a0B (i:=3) (a0h (a0j (a6m (a3H rfl) rfl Z.tuple L3.a2v (padN (a0a (pv 3)) a0d))))))))))
theorem a0Z:a0r b4K a4y (a0g a3K):=⟨rfl,rfl,rfl,by decide +kernel,rfl,by decide +kernel,by decide +kernel⟩
theorem b2J (L:Laid K mg "_law_deed" a3K a4y) (Z:Blt mg) (H_law_mixed:FnN P w K mg base (ctOf K cls) 1 "_law_mixed" a1t a0y) (H_law_number:FnN P w K mg base (ctOf K cls) 2 "_law_number" a2J a0Q):FnN P w K mg base (ctOf K cls) 3 "_law_deed" a4y a4D:=
 a1m (k:=2) L a0Z fun f cdv A outer s H E hr=>
 (a0f (psS (i:=4) a0Z.nd rfl (a0t a01 (a08 H_law_mixed (hr.mono (by first|decide|omega)) rfl (padN (a0a (pv 0)) (padN (a0a (pv 1)) a0d))) a0e))
 (a0f (psS (i:=5) a0Z.nd rfl (a08 H_law_mixed (hr.mono (by first|decide|omega)) rfl (padN (a0a (pv 0)) (padB (a0t (a0n rfl) (a0a (pv 1)) a0e) a0d))))
 (a0f (psS (i:=6) a0Z.nd rfl (a08 H_law_number (hr.mono (by first|decide|omega)) rfl (padN (a0a (pv 0)) (padB (a0t (a0n rfl) (a0a (pv 1)) a0e) a0d))))
 (a0f (a0H (PWD.pt (a8X (a0o a0L (a0U (a1i rfl) rfl Z.len PySem.boot_len (a0G (a0K (pv 2)) a0V)) a0e) (a66 (a0o a0L (a0a (pv 4)) a0e))))
 (a0h (a0j (a0l (padC a0R (padB (a0t (a0n rfl) a0e (a0t a01 (a0a (pv 5)) (a0a (pv 3)))) a0d)))))
 a0q)
 (a0f (psS (i:=7) a0Z.nd rfl (a0t a01 (a0a (pv 5)) (a0U (a1i rfl) rfl Z.len PySem.boot_len (a0G (a0K (pv 2)) a0V))))
 (a0f (psS (i:=8) a0Z.nd rfl (a0U (a1i rfl) rfl Z.len PySem.boot_len (a0G (PD.look (a0i (ixd rfl) (a0i (ixd rfl) (a0a (pv 2)) (a0a (pv 7))) a0e)) a0V)))
 (a0f (a8Y (i:=9) a0Z.nd rfl (by first|exact Or.inl rfl|exact Or.inr rfl) (js:=[13]) (vars:=[".0","_law_y"]) (a07 13) (by rfl) (by rfl) rfl (a00 rfl Z.range (a0U (a1i rfl) rfl Z.len PySem.boot_len (a0G (a0K (pv 2)) a0V))) (fun _ _ _ _=>(pbN a0Z.nd rfl)) (fun _ _ _ _=>(PWD.pt (a2j (a0o a7V (a0a (pv 13)) (a0a (pv 7))) (a1Q (a0o a0L (a0U (a1i rfl) rfl Z.len PySem.boot_len (a0G (PD.look (a0i (ixd rfl) (a0i (ixd rfl) (a0a (pv 2)) (a0a (pv 13))) a0e)) a0V)) (a0a (pv 8))))))) (fun _ _ _ _=>(a0a (pv 13))))
 (a0B (i:=9) (a0f (psS (i:=10) a0Z.nd rfl (a0i (ixd rfl) (a0t (a0n rfl) (a0a (pv 9)) (a1U (padN (a0a (pv 7)) a0d))) (a0t a01 (a08 H_law_mixed (hr.mono (by first|decide|omega)) rfl (padN (a0a (pv 0)) (padB (a0t (a0n rfl) (a0a (pv 1)) a0e) a0d))) (a0t (a0n rfl) (a0U (a1i rfl) rfl Z.len PySem.boot_len (a0G (a0K (pv 9)) a0V)) a0e))))
 (a0f (a0H (PWD.pt (a8X (a0o a0L (a0a (pv 4)) a0e) (a66 (a0o a0L (a0a (pv 4)) a0e))))
 (a0f (psS (i:=12) a0Z.nd rfl (a0t a69 (a0i (ixd rfl) (a0i (ixd rfl) (a0i (ixd rfl) (a0a (pv 2)) (a0a (pv 7))) a0e) a0e) (a0i (ixd rfl) (a0i (ixd rfl) (a0i (ixd rfl) (a0a (pv 2)) (a0a (pv 10))) a0e) a0e)))
 (a0f (a0H (PWD.pt (a2j (a0o a7W (a0t a01 (a0t a5A (a0a (pv 5)) a0e) a0e) a0e) (a1Q (a0o opd_le (b3G cd_abs rfl Z.abs L3.bt_abs (padN (a0a (pv 12)) a0d)) (a0t b2I a0e a0e)))))
 (a0h (psS (i:=6) a0Z.nd rfl (a0a (pv 12))))
 a0q)
 (a0h (a0j (a0l (padS (a0i (ixd rfl) (a1U (padC a0R (padC a0R a0d))) (a0t a69 (a0a (pv 4)) a0e)) (padN (a0a (pv 7)) (padN (a0a (pv 10)) (padN (a0a (pv 6)) a0d)))))))))
 a0q)
 (a0f (a0H (PWD.pt (a2j (a0o a0L (a0a (pv 4)) a0e) (a1Q (a0o a7V (a0a (pv 10)) (a0a (pv 7))))))
 (a0h (a0j (a0l (padC a0R (padN (a0a (pv 7)) (padN (a0a (pv 10)) a0d))))))
 a0q)
 (a0f (a0H (PWD.pt (a8X (a0o a0L (a0a (pv 4)) a0e) (a66 (PWD.pt (a2j (a0o a0L (a0a (pv 4)) a0e) (a1Q (a0o a0L (a0a (pv 8)) a0e)))))))
 (a0h (a0j (a0l (padC a0R (padN (a0a (pv 7)) (padN (a0a (pv 6)) a0d))))))
 a0q)
 (a0f (a0H (a0o a0L (a0a (pv 4)) a0e)
 (a0h (a0j (a0l (padC a0R (padN (a0a (pv 7)) a0d)))))
 a0q)
 (a0f (a0H (PWD.pt (a8X (a0o a0L (a0a (pv 4)) a0e) (a66 (a0o a0L (a0a (pv 4)) a0e))))
 (a0h (a0j (a0l (padC a0R (padN (a0a (pv 7)) a0d)))))
 a0q)
 (a0f (a8Y (i:=11) a0Z.nd rfl (by first|exact Or.inl rfl|exact Or.inr rfl) (js:=[14]) (vars:=[".0","_law_t"]) (a07 14) (by rfl) (by rfl) rfl (a00 rfl Z.range (a0U (a1i rfl) rfl Z.len PySem.boot_len (a0G (a0K (pv 2)) a0V))) (fun _ _ _ _=>(pbN a0Z.nd rfl)) (fun _ _ _ _=>(PWD.pt (a2j (a0o a7V (a0a (pv 14)) (a0a (pv 7))) (a2j (a0o a7V (a0a (pv 14)) (a0a (pv 10))) (a1Q (a0o a0L (a0U (a1i rfl) rfl Z.len PySem.boot_len (a0G (PD.look (a0i (ixd rfl) (a0i (ixd rfl) (a0a (pv 2)) (a0a (pv 14))) a0e)) a0V)) a0e)))))) (fun _ _ _ _=>(a0a (pv 14))))
 (a0f (a0H (PWD.pt (a2j (a0o a0L (a0a (pv 4)) a0e) (a2j (a0o a7V (a0a (pv 10)) (a0a (pv 7))) (a1Q (a0o a7W (a0U (a1i rfl) rfl Z.len PySem.boot_len (a0G (a0K (pv 11)) a0V)) a0e)))))
 (a0B (i:=11) (a0h (a0j (a0l (padC a0R (padN (a0a (pv 7)) (padN (a0a (pv 10)) (padS (a0i (ixd rfl) (a0a (pv 11)) (a0t a01 (a0t a5A (a0a (pv 5)) a0e) (a0U (a1i rfl) rfl Z.len PySem.boot_len (a0G (a0K (pv 11)) a0V)))) a0d))))))))
 a0q)
 (a0f (a0H (a0o a0L (a0a (pv 8)) a0e)
 (a0h (a0j (a0l (padC a0R (padN (a0a (pv 7)) (padT (a0l (padN (a0a (pv 6)) a0d)) a0d))))))
 a0q)
 (a0h (a0j (a0l (padC a0R (padN (a0a (pv 7)) (padT (a0l (padN (a0a (pv 6)) (padK (a08 H_law_number (hr.mono (by first|decide|omega)) rfl (padN (a0a (pv 0)) (padB (a0t (a0n rfl) (a0a (pv 1)) a0e) a0d))) a0d))) a0d)))))))))))))))))))))))
theorem a25:a0r b6C a5g (a0g a4t):=⟨rfl,rfl,rfl,by decide +kernel,rfl,by decide +kernel,by decide +kernel⟩
theorem b4G (L:Laid K mg "_law_row" a4t a5g) (Z:Blt mg) (H_law_deed:FnN P w K mg base (ctOf K cls) 3 "_law_deed" a4y a4D) (H_law_mixed:FnN P w K mg base (ctOf K cls) 1 "_law_mixed" a1t a0y):FnN P w K mg base (ctOf K cls) 4 "_law_row" a5g a5l:=
 a1m (k:=3) L a25 fun f cdv A outer s H E hr=>
 (a0f (psS (i:=6) a25.nd rfl (a1U a0d))
 (a0f (a67 PassesOwn.never rfl (a00 rfl Z.range (a0t (a0n rfl) a0e (a0t a01 (a08 H_law_mixed (hr.mono (by first|decide|omega)) rfl (padN (a0a (pv 0)) (padN (a0a (pv 1)) a0d))) (a0a (pv 4))))) (pbN a25.nd rfl)
 (a0f (psS (i:=8) a25.nd rfl (a0t (a0n rfl) (a0t (a0n rfl) (a0a (pv 1)) a0e) (a0t a3Z a0e (a0a (pv 7)))))
 (a0f (psS (i:=9) a25.nd rfl a0e)
 (a0f (psS (i:=10) a25.nd rfl (a08 H_law_mixed (hr.mono (by first|decide|omega)) rfl (padN (a0a (pv 0)) (padB (a0t (a0n rfl) (a0a (pv 8)) a0e) a0d))))
 (a0f (a0H (a0o a0L (a0t a01 (a0a (pv 10)) a0e) a0e)
 (a0h (psS (i:=9) a25.nd rfl (a0t a3Z a0e (a0t a01 (a0t a5A (a0a (pv 10)) a0e) (a0t opd_shl a0e (a0a (pv 3)))))))
 a0q)
 (a0h (a4x (i:=6) (pv 6) (a0l (padK (a08 H_law_deed (hr.mono (by first|decide|omega)) rfl (padN (a0a (pv 0)) (padN (a0a (pv 8)) (padN (a0a (pv 2)) (padN (a0a (pv 5)) a0d))))) (padN (a0a (pv 9)) a0d))))))))))
 (a0B (i:=6) (a0h (a0j (a6m (a3H rfl) rfl Z.tuple L3.a2v (padN (a0a (pv 6)) a0d)))))))
theorem a1K:a0r b0d a2T (a0g a2a):=⟨rfl,rfl,rfl,by decide +kernel,rfl,by decide +kernel,by decide +kernel⟩
theorem a8G (L:Laid K mg "_law_program" a2a a2T) (Z:Blt mg) (H_law_boxes:FnN P w K mg base (ctOf K cls) 3 "_law_boxes" a3U a4Q) (H_law_mixed:FnN P w K mg base (ctOf K cls) 1 "_law_mixed" a1t a0y) (H_law_row:FnN P w K mg base (ctOf K cls) 4 "_law_row" a5g a5l):FnN P w K mg base (ctOf K cls) 5 "_law_program" a2T a3G:=
 a1m (k:=4) L a1K fun f cdv A outer s H E hr=>
 (a0f (psS (i:=4) a1K.nd rfl (a08 H_law_boxes (hr.mono (by first|decide|omega)) rfl (padN (a0a (pv 0)) a0d)))
 (a0f (psS (i:=5) a1K.nd rfl (a1U (padT (a0l (padC a0R (padC a0e (padK (a08 H_law_row (hr.mono (by first|decide|omega)) rfl (padN (a0a (pv 0)) (padC a0e (padN (a0a (pv 4)) (padN (a0a (pv 1)) (padN (a0a (pv 2)) (padN (a0a (pv 3)) a0d))))))) a0d)))) a0d)))
 (a0f (a67 PassesOwn.never rfl (a00 rfl Z.range (a0a (pv 1))) (pbN a1K.nd rfl)
 (a0f (psS (i:=7) a1K.nd rfl (a0t (a0n rfl) a0e (a0t a3Z (a0t (a0n rfl) a0e (a0t a3Z a0e (a0a (pv 2)))) (a0t (a0n rfl) (a0a (pv 6)) a0e))))
 (a0f (psS (i:=8) a1K.nd rfl (a0t (a0n rfl) a0e (a0t a01 (a08 H_law_mixed (hr.mono (by first|decide|omega)) rfl (padN (a0a (pv 0)) (padB (a0t (a0n rfl) (a0a (pv 7)) a0e) a0d))) (a0i (ixd rfl) (a1U (padC a0e (padC a0e a0d))) (a0t a01 (a08 H_law_mixed (hr.mono (by first|decide|omega)) rfl (padN (a0a (pv 0)) (padB (a0t (a0n rfl) (a0a (pv 7)) a0e) a0d))) a0e)))))
 (a0h (a4x (i:=5) (pv 5) (a0l (padS (a0i (ixd rfl) a0R (a0a (pv 6))) (padN (a0a (pv 8)) (padK (a08 H_law_row (hr.mono (by first|decide|omega)) rfl (padN (a0a (pv 0)) (padN (a0a (pv 7)) (padN (a0a (pv 4)) (padN (a0a (pv 1)) (padN (a0a (pv 2)) (padN (a0a (pv 3)) a0d))))))) a0d)))))))))
 (a0B (i:=5) (a0h (a0j (a0l (padN (a0a (pv 4)) (padK (a6m (a3H rfl) rfl Z.tuple L3.a2v (padN (a0a (pv 5)) a0d)) a0d)))))))))
theorem b02:a0r b2P a3j (a0g a29):=⟨rfl,rfl,rfl,by decide +kernel,rfl,by decide +kernel,by decide +kernel⟩
theorem b1q (L:Laid K mg "places_of" a29 a3j) (Z:Blt mg)  : FnN P w K mg base (ctOf K cls) 1 "places_of" a3j a3m:=
 a1m (k:=0) L b02 fun f cdv A outer s H E hr=>
 (a0h (a0j (a0i (ixd rfl) (a0i (ixd rfl) (a0i (ixd rfl) (a0a (pv 0)) a0e) (a0a (pv 1))) a0e)))
theorem b4q:a0r b6F a5j (a0g a4w):=⟨rfl,rfl,rfl,by decide +kernel,rfl,by decide +kernel,by decide +kernel⟩
theorem b4J (L:Laid K mg "deed_at" a4w a5j) (Z:Blt mg) (H_places_of:FnN P w K mg base (ctOf K cls) 1 "places_of" a3j a3m):FnN P w K mg base (ctOf K cls) 2 "deed_at" a5j a6D:=
 a1m (k:=1) L b4q fun f cdv A outer s H E hr=>
 (a0h (a0j (a0i (ixd rfl) (a0i (ixd rfl) (a08 H_places_of (hr.mono (by first|decide|omega)) rfl (padN (a0a (pv 0)) (padN (a0a (pv 1)) a0d))) (a0a (pv 2))) a0e)))
theorem b4o:a0r b6B a5f (a0g a4s):=⟨rfl,rfl,rfl,by decide +kernel,rfl,by decide +kernel,by decide +kernel⟩
theorem b4F (L:Laid K mg "size_of" a4s a5f) (Z:Blt mg)  : FnN P w K mg base (ctOf K cls) 1 "size_of" a5f a4C:=
 a1m (k:=0) L b4o fun f cdv A outer s H E hr=>
 (a0h (a0j (a0U (a1i rfl) rfl Z.len PySem.boot_len (a0G (PD.look (a0i (ixd rfl) (a0i (ixd rfl) (a0a (pv 0)) (a0a (pv 1))) a0e)) a0V))))
theorem a5X:a0r b4M a4z (a0g a3M):=⟨rfl,rfl,rfl,by decide +kernel,rfl,by decide +kernel,by decide +kernel⟩
theorem b2L (L:Laid K mg "cells_of" a3M a4z) (Z:Blt mg) (H_size_of:FnN P w K mg base (ctOf K cls) 1 "size_of" a5f a4C):FnN P w K mg base (ctOf K cls) 2 "cells_of" a4z a3P:=
 a1m (k:=1) L a5X fun f cdv A outer s H E hr=>
 (a0f (psS (i:=2) a5X.nd rfl (b3G (cd_sum rfl rfl) rfl Z.sum L3.bt_sum (a1w (a2S (js:=[3]) (vars:=[".0","k"]) (a07 3) (by rfl) (by rfl) rfl (a00 rfl Z.range (a0a (pv 1))) (fun _ _ _ _=>(pbN a5X.nd rfl)) (fun _ _ _ _=>(a08 H_size_of (hr.mono (by first|decide|omega)) rfl (padN (a0a (pv 0)) (padN (a0a (pv 3)) a0d))))) a0d)))
 (a0h (a0j (b1m rfl rfl Z.list rfl Z.range (a0a (pv 2)) (a0t (a0n rfl) (a0a (pv 2)) (a08 H_size_of (hr.mono (by first|decide|omega)) rfl (padN (a0a (pv 0)) (padN (a0a (pv 1)) a0d))))))))
theorem b53:a0r n_i_Deed a3o (a0g a5w):=⟨rfl,rfl,rfl,by decide +kernel,rfl,by decide +kernel,by decide +kernel⟩
theorem b6t (L:a3J K mg cls "Deed" "Deed" "Deed.__init__" a5w a3o) (Z:Blt mg) (H_fld_plan:∀c∈["Deed","Promise","Comparing","Untouched","Still","Put","Copy","Tick","Handed","Grow","Anew"],Cls K (cls c)/\a1C K (cls c) "plan"):a2l P w K mg base (ctOf K cls) 1 "Deed" "Deed" a3o a4e:=
 a1Z (k:=0) L b53 (by decide) fun f cdv A outer s H E hr=>
 (a1F (b1e (cs:=["Deed","Promise","Comparing","Untouched","Still","Put","Copy","Tick","Handed","Grow","Anew"]) rfl H_fld_plan (pv 0) (a0a (pv 1)))
 a3Q)
theorem a5W:a0r b4L a3O (a0g a3L):=⟨rfl,rfl,rfl,by decide +kernel,rfl,by decide +kernel,by decide +kernel⟩
theorem b2K (L:a3J K mg cls "Handed" "Handed" "Handed.__init__" a3L a3O) (Z:Blt mg) (H_i_Deed:a2l P w K mg base (ctOf K cls) 1 "Deed" "Deed" a3o a4e):a2l P w K mg base (ctOf K cls) 2 "Handed" "Handed" a3O a5C:=
 a1Z (k:=1) L a5W (by decide) fun f cdv A outer s H E hr=>
 (a1F (a4m H_i_Deed (hr.mono (by decide)) rfl (pv 0) (padB (a0t (a0n rfl) (a2S (js:=[3]) (vars:=[".0","cell"]) (a07 3) (by rfl) (by rfl) rfl (a5Z rfl (a0a (pv 1))) (fun _ _ _ _=>(pbN a5W.nd rfl)) (fun _ _ _ _=>(a0l (padT (a0l (padN (a0a (pv 3)) a0d)) (padT (a0l a0d) a0d))))) (a2S (js:=[3]) (vars:=[".0","cell"]) (a07 3) (by rfl) (by rfl) rfl (a5Z rfl (a0a (pv 2))) (fun _ _ _ _=>(pbN a5W.nd rfl)) (fun _ _ _ _=>(a0l (padT (a0l a0d) (padT (a0l (padN (a0a (pv 3)) a0d)) a0d)))))) a0d))
 a3Q)
theorem b54:a0r n_i_Anew a6t (a0g a5y):=⟨rfl,rfl,rfl,by decide +kernel,rfl,by decide +kernel,by decide +kernel⟩
theorem b6v (L:a3J K mg cls "Anew" "Anew" "Anew.__init__" a5y a6t) (Z:Blt mg) (H_fld_check:∀c∈["Anew"],Cls K (cls c)/\a1C K (cls c) "check") (H_i_Handed:a2l P w K mg base (ctOf K cls) 2 "Handed" "Handed" a3O a5C):a2l P w K mg base (ctOf K cls) 3 "Anew" "Anew" a6t b63:=
 a1Z (k:=2) L b54 (by decide) fun f cdv A outer s H E hr=>
 (a1F (a4m H_i_Handed (hr.mono (by decide)) rfl (pv 0) (padB (a0t (a0n rfl) (a0t (a0n rfl) (a1U (padN (a0a (pv 3)) a0d)) (a0a (pv 2))) (a1U (padN (a0a (pv 3)) a0d))) (padN (a0a (pv 1)) a0d)))
 (a1F (b1e (cs:=["Anew"]) rfl H_fld_check (pv 0) (a0t (a0n rfl) (a0U (a1i rfl) rfl Z.len PySem.boot_len (a0G (a0K (pv 2)) a0V)) a0e))
 a3Q))
theorem b05:a0r b2X a3k (a0g a3h):=⟨rfl,rfl,rfl,by decide +kernel,rfl,by decide +kernel,by decide +kernel⟩
theorem b1y (L:a3J K mg cls "Promise" "Promise" "Promise.__init__" a3h a3k) (Z:Blt mg) (H_i_Deed:a2l P w K mg base (ctOf K cls) 1 "Deed" "Deed" a3o a4e):a2l P w K mg base (ctOf K cls) 2 "Promise" "Promise" a3k a4B:=
 a1Z (k:=1) L b05 (by decide) fun f cdv A outer s H E hr=>
 (a1F (a4m H_i_Deed (hr.mono (by decide)) rfl (pv 0) (a1w (a1U (padT (a0l (padK (a6m (a3H rfl) rfl Z.tuple L3.a2v (padN (a0a (pv 1)) a0d)) (padT (a0l a0d) a0d))) a0d)) a0d))
 a3Q)
theorem a8C:a0r b0f a2V (a0g a2c):=⟨rfl,rfl,rfl,by decide +kernel,rfl,by decide +kernel,by decide +kernel⟩
theorem a8I (L:a3J K mg cls "Comparing" "Comparing" "Comparing.__init__" a2c a2V) (Z:Blt mg) (H_i_Promise:a2l P w K mg base (ctOf K cls) 2 "Promise" "Promise" a3k a4B):a2l P w K mg base (ctOf K cls) 3 "Comparing" "Comparing" a2V a56:=
 a1Z (k:=2) L a8C (by decide) fun f cdv A outer s H E hr=>
 (a1F (a4m H_i_Promise (hr.mono (by decide)) rfl (pv 0) (padK (b1k rfl rfl rfl Z.sorted rfl Z.set (a0t (a0n rfl) (a0a (pv 1)) (a0a (pv 2)))) a0d))
 a3Q)
theorem b06:a0r n_i_Copy a6s (a0g a5x):=⟨rfl,rfl,rfl,by decide +kernel,rfl,by decide +kernel,by decide +kernel⟩
theorem b6u (L:a3J K mg cls "Copy" "Copy" "Copy.__init__" a5x a6s) (Z:Blt mg) (H_i_Deed:a2l P w K mg base (ctOf K cls) 1 "Deed" "Deed" a3o a4e):a2l P w K mg base (ctOf K cls) 2 "Copy" "Copy" a6s b62:=
 a1Z (k:=1) L b06 (by decide) fun f cdv A outer s H E hr=>
 (a1F (a4m H_i_Deed (hr.mono (by decide)) rfl (pv 0) (a1w (a2S (js:=[3]) (vars:=[".0","k"]) (a07 3) (by rfl) (by rfl) rfl (a00 rfl Z.range (a0U (a1i rfl) rfl Z.len PySem.boot_len (a0G (a0K (pv 1)) a0V))) (fun _ _ _ _=>(pbN b06.nd rfl)) (fun _ _ _ _=>(a0l (padT (a0l (padS (a0i (ixd rfl) (a0a (pv 2)) (a0a (pv 3))) a0d)) (padT (a0l (padS (a0i (ixd rfl) (a0a (pv 1)) (a0a (pv 3))) a0d)) a0d))))) a0d))
 a3Q)
theorem b52:a0r n_i_Grow a6r (a0g a5v):=⟨rfl,rfl,rfl,by decide +kernel,rfl,by decide +kernel,by decide +kernel⟩
theorem b6s (L:a3J K mg cls "Grow" "Grow" "Grow.__init__" a5v a6r) (Z:Blt mg) (H_fld_number:∀c∈["Grow"],Cls K (cls c)/\a1C K (cls c) "number") (H_fld_size:∀c∈["Grow"],Cls K (cls c)/\a1C K (cls c) "size") (H_i_Handed:a2l P w K mg base (ctOf K cls) 2 "Handed" "Handed" a3O a5C):a2l P w K mg base (ctOf K cls) 3 "Grow" "Grow" a6r b61:=
 a1Z (k:=2) L b52 (by decide) fun f cdv A outer s H E hr=>
 (a1F (a4m H_i_Handed (hr.mono (by decide)) rfl (pv 0) (padN (a0a (pv 1)) (padN (a0a (pv 1)) a0d)))
 (a1F (b1e (cs:=["Grow"]) rfl H_fld_size (pv 0) (a0U (a1i rfl) rfl Z.len PySem.boot_len (a0G (a0K (pv 1)) a0V)))
 (a1F (b1e (cs:=["Grow"]) rfl H_fld_number (pv 0) (a0a (pv 2)))
 a3Q)))
theorem b3w:a0r n_i_Put a7S (a0g a64):=⟨rfl,rfl,rfl,by decide +kernel,rfl,by decide +kernel,by decide +kernel⟩
theorem ok_i_Put (L:a3J K mg cls "Put" "Put" "Put.__init__" a64 a7S) (Z:Blt mg) (H_fld_numbers:∀c∈["Put"],Cls K (cls c)/\a1C K (cls c) "numbers") (H_i_Deed:a2l P w K mg base (ctOf K cls) 1 "Deed" "Deed" a3o a4e):a2l P w K mg base (ctOf K cls) 2 "Put" "Put" a7S i_Put:=
 a1Z (k:=1) L b3w (by decide) fun f cdv A outer s H E hr=>
 (a1F (a4m H_i_Deed (hr.mono (by decide)) rfl (pv 0) (a1w (a2S (js:=[3]) (vars:=[".0","cell"]) (a07 3) (by rfl) (by rfl) rfl (a5Z rfl (a0a (pv 1))) (fun _ _ _ _=>(pbN b3w.nd rfl)) (fun _ _ _ _=>(a0l (padT (a0l a0d) (padT (a0l (padN (a0a (pv 3)) a0d)) a0d))))) a0d))
 (a1F (b1e (cs:=["Put"]) rfl H_fld_numbers (pv 0) (a6m (a3H rfl) rfl Z.tuple L3.a2v (padN (a0a (pv 2)) a0d)))
 a3Q))
theorem b4p:a0r b6D a5h (a0g a4u):=⟨rfl,rfl,rfl,by decide +kernel,rfl,by decide +kernel,by decide +kernel⟩
theorem b4H (L:a3J K mg cls "Still" "Still" "Still.__init__" a4u a5h) (Z:Blt mg) (H_i_Deed:a2l P w K mg base (ctOf K cls) 1 "Deed" "Deed" a3o a4e):a2l P w K mg base (ctOf K cls) 2 "Still" "Still" a5h b28:=
 a1Z (k:=1) L b4p (by decide) fun f cdv A outer s H E hr=>
 (a1F (a4m H_i_Deed (hr.mono (by decide)) rfl (pv 0) (padB (pd_rep (a1U (padT (a0l (padT (a0l a0d) (padT (a0l a0d) a0d))) a0d)) (a0a (pv 1))) a0d))
 a3Q)
theorem b51:a0r n_i_Tick a6q (a0g a5u):=⟨rfl,rfl,rfl,by decide +kernel,rfl,by decide +kernel,by decide +kernel⟩
theorem b6r (L:a3J K mg cls "Tick" "Tick" "Tick.__init__" a5u a6q) (Z:Blt mg) (H_i_Deed:a2l P w K mg base (ctOf K cls) 1 "Deed" "Deed" a3o a4e):a2l P w K mg base (ctOf K cls) 2 "Tick" "Tick" a6q b60:=
 a1Z (k:=1) L b51 (by decide) fun f cdv A outer s H E hr=>
 (a1F (a4m H_i_Deed (hr.mono (by decide)) rfl (pv 0) (a1w (a1U (padT (a0l (padT (a0l (padN (a0a (pv 1)) a0d)) (padT (a0l (padN (a0a (pv 1)) a0d)) a0d))) a0d)) a0d))
 a3Q)
theorem a8B:a0r b0e a2U (a0g a2b):=⟨rfl,rfl,rfl,by decide +kernel,rfl,by decide +kernel,by decide +kernel⟩
theorem a8H (L:a3J K mg cls "Untouched" "Untouched" "Untouched.__init__" a2b a2U) (Z:Blt mg) (H_i_Promise:a2l P w K mg base (ctOf K cls) 2 "Promise" "Promise" a3k a4B):a2l P w K mg base (ctOf K cls) 3 "Untouched" "Untouched" a2U a54:=
 a1Z (k:=2) L a8B (by decide) fun f cdv A outer s H E hr=>
 (a1F (a4m H_i_Promise (hr.mono (by decide)) rfl (pv 0) (a1w (a1U a0d) a0d))
 a3Q)
theorem a5s:a0r b6E a5i (a0g a4v):=⟨rfl,rfl,rfl,by decide +kernel,rfl,by decide +kernel,by decide +kernel⟩
theorem b4I (L:Laid K mg "deed_of" a4v a5i) (Z:Blt mg) (H_cells_of:FnN P w K mg base (ctOf K cls) 2 "cells_of" a4z a3P) (H_i_Anew:a2l P w K mg base (ctOf K cls) 3 "Anew" "Anew" a6t b63) (H_i_Comparing:a2l P w K mg base (ctOf K cls) 3 "Comparing" "Comparing" a2V a56) (H_i_Copy:a2l P w K mg base (ctOf K cls) 2 "Copy" "Copy" a6s b62) (H_i_Grow:a2l P w K mg base (ctOf K cls) 3 "Grow" "Grow" a6r b61) (H_i_Put:a2l P w K mg base (ctOf K cls) 2 "Put" "Put" a7S i_Put) (H_i_Still:a2l P w K mg base (ctOf K cls) 2 "Still" "Still" a5h b28) (H_i_Tick:a2l P w K mg base (ctOf K cls) 2 "Tick" "Tick" a6q b60) (H_i_Untouched:a2l P w K mg base (ctOf K cls) 3 "Untouched" "Untouched" a2U a54):FnN P w K mg base (ctOf K cls) 5 "deed_of" a5i a6C:=
 a1m (k:=4) L a5s fun f cdv A outer s H E hr=>
 (a0f (psS (i:=2) a5s.nd rfl (a0i (ixd rfl) (a0a (pv 1)) a0e))
 (a0f (a0H (a0o a0L (a0a (pv 2)) a0R)
 (a0h (a0j (a50 H_i_Still (hr.mono (by decide)) rfl (padS (a0i (ixd rfl) (a0a (pv 1)) a0e) a0d))))
 a0q)
 (a0f (a0H (a0o a0L (a0a (pv 2)) a0R)
 (a0h (a0j (pd_make0 H_i_Untouched (hr.mono (by decide)) rfl)))
 a0q)
 (a0f (psS (i:=3) a5s.nd rfl (a08 H_cells_of (hr.mono (by first|decide|omega)) rfl (padN (a0a (pv 0)) (padS (a0i (ixd rfl) (a0a (pv 1)) a0e) a0d))))
 (a0f (a0H (a0o a0L (a0a (pv 2)) a0R)
 (a0B (i:=3) (a0h (a0j (a50 H_i_Put (hr.mono (by decide)) rfl (padN (a0a (pv 3)) (padS (a0i (ixd rfl) (a0a (pv 1)) a0e) a0d))))))
 a0q)
 (a0f (a0H (a0o a0L (a0a (pv 2)) a0R)
 (a0B (i:=3) (a0h (a0j (a50 H_i_Grow (hr.mono (by decide)) rfl (padN (a0a (pv 3)) (padS (a0i (ixd rfl) (a0a (pv 1)) a0e) a0d))))))
 a0q)
 (a0f (a0H (a0o a0L (a0a (pv 2)) a0R)
 (a0B (i:=3) (a0h (a0j (a50 H_i_Tick (hr.mono (by decide)) rfl (padS (a0i (ixd rfl) (a0a (pv 3)) a0e) a0d)))))
 a0q)
 (a0f (psS (i:=4) a5s.nd rfl (a08 H_cells_of (hr.mono (by first|decide|omega)) rfl (padN (a0a (pv 0)) (padS (a0i (ixd rfl) (a0a (pv 1)) a0e) a0d))))
 (a0f (a0H (a0o a0L (a0a (pv 2)) a0R)
 (a0B (i:=4) (a0B (i:=3) (a0h (a0j (a50 H_i_Copy (hr.mono (by decide)) rfl (padN (a0a (pv 3)) (padN (a0a (pv 4)) a0d)))))))
 a0q)
 (a0f (a0H (a0o a0L (a0a (pv 2)) a0R)
 (a0B (i:=4) (a0B (i:=3) (a0h (a0j (a50 H_i_Anew (hr.mono (by decide)) rfl (padN (a0a (pv 3)) (padN (a0a (pv 4)) (padS (a0i (ixd rfl) (a08 H_cells_of (hr.mono (by first|decide|omega)) rfl (padN (a0a (pv 0)) (padS (a0i (ixd rfl) (a0a (pv 1)) a0e) a0d))) a0e) a0d))))))))
 a0q)
 (a0B (i:=4) (a0B (i:=3) (a0h (a0j (a50 H_i_Comparing (hr.mono (by decide)) rfl (padN (a0a (pv 3)) (padN (a0a (pv 4)) a0d)))))))))))))))))
theorem b04:a0r b2W a3X (a0g a3g):=⟨rfl,rfl,rfl,by decide +kernel,rfl,by decide +kernel,by decide +kernel⟩
theorem b1x (L:Laid K mg "is_at_end" a3g a3X) (Z:Blt mg) (H_places_of:FnN P w K mg base (ctOf K cls) 1 "places_of" a3j a3m):FnN P w K mg base (ctOf K cls) 2 "is_at_end" a3X a17:=
 a1m (k:=1) L b04 fun f cdv A outer s H E hr=>
 (a0h (a0j (b3F a0L (a0i (ixd rfl) (a0a (pv 1)) a0e) (a0U (a1i rfl) rfl Z.len PySem.boot_len (a0G (PD.look (a08 H_places_of (hr.mono (by first|decide|omega)) rfl (padN (a0a (pv 0)) (padS (a0i (ixd rfl) (a0a (pv 1)) a0e) a0d)))) a0V)))))
theorem a9U:a0r b1G a1W (a0g a2F):=⟨rfl,rfl,rfl,by decide +kernel,rfl,by decide +kernel,by decide +kernel⟩
theorem a98 (L:a3I K cls "reads" "Deed.reads" a2F a1W ["Deed","Promise","Comparing","Untouched","Still","Put","Copy","Tick","Handed","Grow","Anew"]) (Z:Blt mg) (H_fld_plan:∀c∈["Deed","Promise","Comparing","Untouched","Still","Put","Copy","Tick","Handed","Grow","Anew"],Cls K (cls c)/\a1C K (cls c) "plan"):a2k P w K mg base (ctOf K cls) 1 "reads" a1W a18 ["Deed","Promise","Comparing","Untouched","Still","Put","Copy","Tick","Handed","Grow","Anew"]:=
 a1X (k:=0) L a9U fun f cdv A outer s H E hr=>
 (a0h (a0j (a6m (b0z rfl) rfl Z.list L3.a58 (padS (a0i (ixd rfl) (a0i (ixd rfl) (a5R (cs:=["Deed","Promise","Comparing","Untouched","Still","Put","Copy","Tick","Handed","Grow","Anew"]) rfl H_fld_plan (a0a (pv 0))) (a0a (pv 1))) a0e) a0d))))
theorem a8D:a0r b0g a2f (a0g a2d):=⟨rfl,rfl,rfl,by decide +kernel,rfl,by decide +kernel,by decide +kernel⟩
theorem a8J (L:a3I K cls "laid" "Handed.laid" a2d a2f ["Handed","Grow","Anew"]) (Z:Blt mg) (H_Deed_reads:a2k P w K mg base (ctOf K cls) 1 "reads" a1W a18 ["Deed","Promise","Comparing","Untouched","Still","Put","Copy","Tick","Handed","Grow","Anew"]):a2k P w K mg base (ctOf K cls) 2 "laid" a2f a2g ["Handed","Grow","Anew"]:=
 a1X (k:=1) L a8D fun f cdv A outer s H E hr=>
 (a0h (a0j (a0l (padN (a0a (pv 2)) (padB (a0t (a0n rfl) (a0a (pv 3)) (a0l (padS (a0i (ixd rfl) (a0a (pv 2)) (a0i (ixd rfl) (a3A (tb:=a3D) (a1b H_Deed_reads (hr.mono (by decide)) a2O) (a0a (pv 0)) (padN (a0a (pv 1)) a0d)) a0e)) a0d))) (padB (a0t (a0n rfl) (a0a (pv 1)) a0e) a0d))))))
theorem b4n:a0r b6A a3r (a0g a4r):=⟨rfl,rfl,rfl,by decide +kernel,rfl,by decide +kernel,by decide +kernel⟩
theorem b4E (L:Laid K mg "written" a4r a3r) (Z:Blt mg)  : FnN P w K mg base (ctOf K cls) 1 "written" a3r a2r:=
 a1m (k:=0) L b4n fun f cdv A outer s H E hr=>
 (a0h (a0j (a0t (a0n rfl) (a0t (a0n rfl) (a6n rfl (a0a (pv 0)) a6i (a6h (a0a (pv 1)))) (a0l (padN (a0a (pv 2)) a0d))) (a6n rfl (a0a (pv 0)) (a6h (a0t (a0n rfl) (a0a (pv 1)) a0e)) a6i))))
theorem a9T:a0r b1F a2K (a0g a2E):=⟨rfl,rfl,rfl,by decide +kernel,rfl,by decide +kernel,by decide +kernel⟩
theorem a97 (L:a3I K cls "turns" "Deed.turns" a2E a2K ["Deed","Promise","Comparing","Untouched","Still","Put","Copy","Tick","Handed","Grow","Anew"]) (Z:Blt mg) (H_fld_plan:∀c∈["Deed","Promise","Comparing","Untouched","Still","Put","Copy","Tick","Handed","Grow","Anew"],Cls K (cls c)/\a1C K (cls c) "plan"):a2k P w K mg base (ctOf K cls) 1 "turns" a2K a2L ["Deed","Promise","Comparing","Untouched","Still","Put","Copy","Tick","Handed","Grow","Anew"]:=
 a1X (k:=0) L a9T fun f cdv A outer s H E hr=>
 (a0h (a0j (a0U (a1i rfl) rfl Z.len PySem.boot_len (a0G (PD.look (a5R (cs:=["Deed","Promise","Comparing","Untouched","Still","Put","Copy","Tick","Handed","Grow","Anew"]) rfl H_fld_plan (a0a (pv 0)))) a0V))))
theorem a8E:a0r b0h a1p (a0g a2e):=⟨rfl,rfl,rfl,by decide +kernel,rfl,by decide +kernel,by decide +kernel⟩
theorem a8K (L:a3I K cls "writes" "Deed.writes" a2e a1p ["Deed","Promise","Comparing","Untouched","Still","Put","Copy","Tick","Handed","Grow","Anew"]) (Z:Blt mg) (H_fld_plan:∀c∈["Deed","Promise","Comparing","Untouched","Still","Put","Copy","Tick","Handed","Grow","Anew"],Cls K (cls c)/\a1C K (cls c) "plan"):a2k P w K mg base (ctOf K cls) 1 "writes" a1p a1s ["Deed","Promise","Comparing","Untouched","Still","Put","Copy","Tick","Handed","Grow","Anew"]:=
 a1X (k:=0) L a8E fun f cdv A outer s H E hr=>
 (a0h (a0j (a6m (b0z rfl) rfl Z.list L3.a58 (padS (a0i (ixd rfl) (a0i (ixd rfl) (a5R (cs:=["Deed","Promise","Comparing","Untouched","Still","Put","Copy","Tick","Handed","Grow","Anew"]) rfl H_fld_plan (a0a (pv 0))) (a0a (pv 1))) a0e) a0d))))
theorem a2P:a0r a7a a1e (a0g a1d):=⟨rfl,rfl,rfl,by decide +kernel,rfl,by decide +kernel,by decide +kernel⟩
theorem a6v (L:a3I K cls "set_down" "Handed.set_down" a1d a1e ["Handed","Grow","Anew"]) (Z:Blt mg) (H_written:FnN P w K mg base (ctOf K cls) 1 "written" a3r a2r) (H_Deed_turns:a2k P w K mg base (ctOf K cls) 1 "turns" a2K a2L ["Deed","Promise","Comparing","Untouched","Still","Put","Copy","Tick","Handed","Grow","Anew"]) (H_Deed_writes:a2k P w K mg base (ctOf K cls) 1 "writes" a1p a1s ["Deed","Promise","Comparing","Untouched","Still","Put","Copy","Tick","Handed","Grow","Anew"]):a2k P w K mg base (ctOf K cls) 2 "set_down" a1e a1f ["Handed","Grow","Anew"]:=
 a1X (k:=1) L a2P fun f cdv A outer s H E hr=>
 (a0f (psS (i:=5) a2P.nd rfl (a0t (a0n rfl) (a0a (pv 1)) a0e))
 (a0f (psS (i:=6) a2P.nd rfl (pd_ifExp (a0o a0L (a0a (pv 5)) (b3E (tb:=a37) (a1b H_Deed_turns (hr.mono (by decide)) a2O) (a0a (pv 0)))) (a0l a0d) (a0a (pv 3))))
 (a0h (a0j (a0l (padK (a08 H_written (hr.mono (by first|decide|omega)) rfl (padN (a0a (pv 2)) (padS (a0i (ixd rfl) (a3A (tb:=a1T) (a1b H_Deed_writes (hr.mono (by decide)) a2O) (a0a (pv 0)) (padN (a0a (pv 1)) a0d)) a0e) (padN (a0a (pv 4)) a0d)))) (padN (a0a (pv 6)) (padN (a0a (pv 5)) a0d))))))))
theorem a9W:a0r b1J a3x (a0g a2I):=⟨rfl,rfl,rfl,by decide +kernel,rfl,by decide +kernel,by decide +kernel⟩
theorem b0b (L:a3I K cls "after" "Anew.after" a2I a3x ["Anew"]) (Z:Blt mg) (H_fld_check:∀c∈["Anew"],Cls K (cls c)/\a1C K (cls c) "check") (H_Deed_reads:a2k P w K mg base (ctOf K cls) 1 "reads" a1W a18 ["Deed","Promise","Comparing","Untouched","Still","Put","Copy","Tick","Handed","Grow","Anew"]) (H_Handed_laid:a2k P w K mg base (ctOf K cls) 2 "laid" a2f a2g ["Handed","Grow","Anew"]) (H_Handed_set_down:a2k P w K mg base (ctOf K cls) 2 "set_down" a1e a1f ["Handed","Grow","Anew"]):a2k P w K mg base (ctOf K cls) 3 "after" a3x a4j ["Anew"]:=
 a1X (k:=2) L a9W fun f cdv A outer s H E hr=>
 (a0f (a0H (a0o b3H (a0a (pv 1)) (a5R (cs:=["Anew"]) rfl H_fld_check (a0a (pv 0))))
 (a0h (a0j (a3A (tb:=a6V) (a1b H_Handed_laid (hr.mono (by decide)) a2O) (a0a (pv 0)) (padN (a0a (pv 1)) (padN (a0a (pv 2)) (padN (a0a (pv 3)) a0d))))))
 a0q)
 (a0f (a0H (a0o a7W (a0a (pv 1)) (a5R (cs:=["Anew"]) rfl H_fld_check (a0a (pv 0))))
 (a0h (a0j (a3A (tb:=a24) (a1b H_Handed_set_down (hr.mono (by decide)) a2O) (a0a (pv 0)) (padN (a0a (pv 1)) (padN (a0a (pv 2)) (padN (a0a (pv 3)) (padS (a0i (ixd rfl) (a0a (pv 3)) (a0t a69 (a0a (pv 1)) (a5R (cs:=["Anew"]) rfl H_fld_check (a0a (pv 0))))) a0d)))))))
 a0q)
 (a0f (a0H (a0o a0L (a0i (ixd rfl) (a0a (pv 2)) (a0i (ixd rfl) (a3A (tb:=a3D) (a1b H_Deed_reads (hr.mono (by decide)) a2O) (a0a (pv 0)) (padN (a0a (pv 1)) a0d)) a0e)) (a0i (ixd rfl) (a0a (pv 3)) a0e))
 (a0h (a0j (a0l (padN (a0a (pv 2)) (padN (a0a (pv 3)) (padB (a0t (a0n rfl) (a0a (pv 1)) a0e) a0d))))))
 a0q)
 (a0h (a0j (a0l (padN (a0a (pv 2)) (padT (a0l a0d) (padC a0e a0d)))))))))
theorem a6f:a0r b1I a3w (a0g a2H):=⟨rfl,rfl,rfl,by decide +kernel,rfl,by decide +kernel,by decide +kernel⟩
theorem b0a (L:a3I K cls "after" "Copy.after" a2H a3w ["Copy"]) (Z:Blt mg) (H_written:FnN P w K mg base (ctOf K cls) 1 "written" a3r a2r) (H_Deed_reads:a2k P w K mg base (ctOf K cls) 1 "reads" a1W a18 ["Deed","Promise","Comparing","Untouched","Still","Put","Copy","Tick","Handed","Grow","Anew"]) (H_Deed_writes:a2k P w K mg base (ctOf K cls) 1 "writes" a1p a1s ["Deed","Promise","Comparing","Untouched","Still","Put","Copy","Tick","Handed","Grow","Anew"]):a2k P w K mg base (ctOf K cls) 2 "after" a3w a4i ["Copy"]:=
 a1X (k:=1) L a6f fun f cdv A outer s H E hr=>
 (a0f (psS (i:=4) a6f.nd rfl (a0i (ixd rfl) (a0a (pv 2)) (a0i (ixd rfl) (a3A (tb:=a3D) (a1b H_Deed_reads (hr.mono (by decide)) a2O) (a0a (pv 0)) (padN (a0a (pv 1)) a0d)) a0e)))
 (a0h (a0j (a0l (padK (a08 H_written (hr.mono (by first|decide|omega)) rfl (padN (a0a (pv 2)) (padS (a0i (ixd rfl) (a3A (tb:=a1T) (a1b H_Deed_writes (hr.mono (by decide)) a2O) (a0a (pv 0)) (padN (a0a (pv 1)) a0d)) a0e) (padN (a0a (pv 4)) a0d)))) (padN (a0a (pv 3)) (padB (a0t (a0n rfl) (a0a (pv 1)) a0e) a0d)))))))
theorem a9V:a0r b1H a3v (a0g a2G):=⟨rfl,rfl,rfl,by decide +kernel,rfl,by decide +kernel,by decide +kernel⟩
theorem a99 (L:a3I K cls "after" "Deed.after" a2G a3v ["Deed","Promise","Comparing","Untouched","Still","Handed"]) (Z:Blt mg)  : a2k P w K mg base (ctOf K cls) 1 "after" a3v a19 ["Deed","Promise","Comparing","Untouched","Still","Handed"]:=
 a1X (k:=0) L a9V fun f cdv A outer s H E hr=>
 (a0h (a0j (a0l (padN (a0a (pv 2)) (padN (a0a (pv 3)) (padB (a0t (a0n rfl) (a0a (pv 1)) a0e) a0d))))))
theorem a9S:a0r b1E a3u (a0g a2D):=⟨rfl,rfl,rfl,by decide +kernel,rfl,by decide +kernel,by decide +kernel⟩
theorem a96 (L:a3I K cls "after" "Grow.after" a2D a3u ["Grow"]) (Z:Blt mg) (H_fld_number:∀c∈["Grow"],Cls K (cls c)/\a1C K (cls c) "number") (H_fld_size:∀c∈["Grow"],Cls K (cls c)/\a1C K (cls c) "size") (H_Handed_laid:a2k P w K mg base (ctOf K cls) 2 "laid" a2f a2g ["Handed","Grow","Anew"]) (H_Handed_set_down:a2k P w K mg base (ctOf K cls) 2 "set_down" a1e a1f ["Handed","Grow","Anew"]):a2k P w K mg base (ctOf K cls) 3 "after" a3u a4h ["Grow"]:=
 a1X (k:=2) L a9S fun f cdv A outer s H E hr=>
 (a0f (a0H (a0o b3H (a0a (pv 1)) (a5R (cs:=["Grow"]) rfl H_fld_size (a0a (pv 0))))
 (a0h (a0j (a3A (tb:=a6V) (a1b H_Handed_laid (hr.mono (by decide)) a2O) (a0a (pv 0)) (padN (a0a (pv 1)) (padN (a0a (pv 2)) (padN (a0a (pv 3)) a0d))))))
 a0q)
 (a0h (a0j (a3A (tb:=a24) (a1b H_Handed_set_down (hr.mono (by decide)) a2O) (a0a (pv 0)) (padN (a0a (pv 1)) (padN (a0a (pv 2)) (padN (a0a (pv 3)) (padB (a0t (a0n rfl) (a0i (ixd rfl) (a0a (pv 3)) (a0t a69 (a0a (pv 1)) (a5R (cs:=["Grow"]) rfl H_fld_size (a0a (pv 0))))) (a5R (cs:=["Grow"]) rfl H_fld_number (a0a (pv 0)))) a0d))))))))
theorem b07:a0r b2Y a3Y (a0g a3i):=⟨rfl,rfl,rfl,by decide +kernel,rfl,by decide +kernel,by decide +kernel⟩
theorem b1z (L:a3I K cls "after" "Put.after" a3i a3Y ["Put"]) (Z:Blt mg) (H_written:FnN P w K mg base (ctOf K cls) 1 "written" a3r a2r) (H_fld_numbers:∀c∈["Put"],Cls K (cls c)/\a1C K (cls c) "numbers") (H_Deed_writes:a2k P w K mg base (ctOf K cls) 1 "writes" a1p a1s ["Deed","Promise","Comparing","Untouched","Still","Put","Copy","Tick","Handed","Grow","Anew"]):a2k P w K mg base (ctOf K cls) 2 "after" a3Y a4T ["Put"]:=
 a1X (k:=1) L b07 fun f cdv A outer s H E hr=>
 (a0h (a0j (a0l (padK (a08 H_written (hr.mono (by first|decide|omega)) rfl (padN (a0a (pv 2)) (padS (a0i (ixd rfl) (a3A (tb:=a1T) (a1b H_Deed_writes (hr.mono (by decide)) a2O) (a0a (pv 0)) (padN (a0a (pv 1)) a0d)) a0e) (padS (a0i (ixd rfl) (a5R (cs:=["Put"]) rfl H_fld_numbers (a0a (pv 0))) (a0a (pv 1))) a0d)))) (padN (a0a (pv 3)) (padB (a0t (a0n rfl) (a0a (pv 1)) a0e) a0d))))))
theorem a6e:a0r b1D a3t (a0g a2C):=⟨rfl,rfl,rfl,by decide +kernel,rfl,by decide +kernel,by decide +kernel⟩
theorem a95 (L:a3I K cls "after" "Tick.after" a2C a3t ["Tick"]) (Z:Blt mg) (H_written:FnN P w K mg base (ctOf K cls) 1 "written" a3r a2r) (H_Deed_writes:a2k P w K mg base (ctOf K cls) 1 "writes" a1p a1s ["Deed","Promise","Comparing","Untouched","Still","Put","Copy","Tick","Handed","Grow","Anew"]):a2k P w K mg base (ctOf K cls) 2 "after" a3t a4g ["Tick"]:=
 a1X (k:=1) L a6e fun f cdv A outer s H E hr=>
 (a0f (psS (i:=4) a6e.nd rfl (a0i (ixd rfl) (a3A (tb:=a1T) (a1b H_Deed_writes (hr.mono (by decide)) a2O) (a0a (pv 0)) (padN (a0a (pv 1)) a0d)) a0e))
 (a0h (a0j (a0l (padK (a08 H_written (hr.mono (by first|decide|omega)) rfl (padN (a0a (pv 2)) (padN (a0a (pv 4)) (padB (a0t (a0n rfl) (a0i (ixd rfl) (a0a (pv 2)) (a0a (pv 4))) a0e) a0d)))) (padN (a0a (pv 3)) (padB (a0t (a0n rfl) (a0a (pv 1)) a0e) a0d)))))))
theorem a4q:a0r n_turned a6p (a0g a5t):=⟨rfl,rfl,rfl,by decide +kernel,rfl,by decide +kernel,by decide +kernel⟩
theorem b6q (L:Laid K mg "turned" a5t a6p) (Z:Blt mg) (H_deed_at:FnN P w K mg base (ctOf K cls) 2 "deed_at" a5j a6D) (H_deed_of:FnN P w K mg base (ctOf K cls) 5 "deed_of" a5i a6C) (H_is_at_end:FnN P w K mg base (ctOf K cls) 2 "is_at_end" a3X a17) (H_Anew_after:a2k P w K mg base (ctOf K cls) 3 "after" a3x a4j ["Anew"]) (H_Copy_after:a2k P w K mg base (ctOf K cls) 2 "after" a3w a4i ["Copy"]) (H_Deed_after:a2k P w K mg base (ctOf K cls) 1 "after" a3v a19 ["Deed","Promise","Comparing","Untouched","Still","Handed"]) (H_Deed_turns:a2k P w K mg base (ctOf K cls) 1 "turns" a2K a2L ["Deed","Promise","Comparing","Untouched","Still","Put","Copy","Tick","Handed","Grow","Anew"]) (H_Grow_after:a2k P w K mg base (ctOf K cls) 3 "after" a3u a4h ["Grow"]) (H_Put_after:a2k P w K mg base (ctOf K cls) 2 "after" a3Y a4T ["Put"]) (H_Tick_after:a2k P w K mg base (ctOf K cls) 2 "after" a3t a4g ["Tick"]):FnN P w K mg base (ctOf K cls) 6 "turned" a6p a5E:=
 a1m (k:=5) L a4q fun f cdv A outer s H E hr=>
 (a0f (psS (i:=3) a4q.nd rfl (a0i (ixd rfl) (a0a (pv 1)) b1l))
 (a0f (a0H (a4H (a08 H_is_at_end (hr.mono (by first|decide|omega)) rfl (padN (a0a (pv 0)) (padN (a0a (pv 3)) a0d))))
 (a0h (a0j pd_non))
 a0q)
 (a0f (psS (i:=4) a4q.nd rfl (a08 H_deed_of (hr.mono (by first|decide|omega)) rfl (padS (a0i (ixd rfl) (a0a (pv 0)) a0e) (padK (a08 H_deed_at (hr.mono (by first|decide|omega)) rfl (padN (a0a (pv 0)) (padS (a0i (ixd rfl) (a0a (pv 3)) a0e) (padS (a0i (ixd rfl) (a0a (pv 3)) a0e) a0d)))) a0d))))
 (a0B (i:=4) (a0f (psS (i:=5) a4q.nd rfl (a3A (tb:=a2N) (a1b H_Deed_after (hr.mono (by decide)) (a1b H_Put_after (hr.mono (by decide)) (a1b H_Copy_after (hr.mono (by decide)) (a1b H_Tick_after (hr.mono (by decide)) (a1b H_Grow_after (hr.mono (by decide)) (a1b H_Anew_after (hr.mono (by decide)) a2O)))))) (a0a (pv 4)) (padS (a0i (ixd rfl) (a0a (pv 3)) a0e) (padN (a0a (pv 2)) (padS (a0i (ixd rfl) (a0a (pv 3)) a0e) a0d)))))
 (a0B (i:=4) (a0f (a0H (a0o b3H (a0i (ixd rfl) (a0a (pv 5)) a0e) (b3E (tb:=a37) (a1b H_Deed_turns (hr.mono (by decide)) a2O) (a0a (pv 4))))
 (a0h (psS (i:=6) a4q.nd rfl (a0l (padS (a0i (ixd rfl) (a0a (pv 3)) a0e) (padS (a0i (ixd rfl) (a0a (pv 3)) a0e) (padS (a0i (ixd rfl) (a0a (pv 5)) a0e) (padS (a0i (ixd rfl) (a0a (pv 5)) a0e) a0d)))))))
 (a0h (psS (i:=6) a4q.nd rfl (a0l (padS (a0i (ixd rfl) (a0a (pv 3)) a0e) (padB (a0t (a0n rfl) (a0i (ixd rfl) (a0a (pv 3)) a0e) a0e) (padC a0e (padT (a0l a0d) a0d))))))))
 (a0f (a0H (PWD.pt (a2j (a0o a7W (a0i (ixd rfl) (a0a (pv 6)) a0e) a0e) (a1Q (a4H (a08 H_is_at_end (hr.mono (by first|decide|omega)) rfl (padN (a0a (pv 0)) (padN (a0a (pv 6)) a0d)))))))
 (a0h (a0j (a0l (padS (a6n rfl (a0a (pv 1)) a6i (a6h b1l)) (padS (a0i (ixd rfl) (a0a (pv 5)) a0e) a0d)))))
 a0q)
 (a0h (a0j (a0l (padB (a0t (a0n rfl) (a6n rfl (a0a (pv 1)) a6i (a6h b1l)) (a0l (padN (a0a (pv 6)) a0d))) (padS (a0i (ixd rfl) (a0a (pv 5)) a0e) a0d)))))))))))))
theorem b55:a0r n_behind a6u (a0g a5z):=⟨rfl,rfl,rfl,by decide +kernel,rfl,by decide +kernel,by decide +kernel⟩
theorem b6w (L:Laid K mg "behind" a5z a6u) (Z:Blt mg) (H_turned:FnN P w K mg base (ctOf K cls) 6 "turned" a6p a5E):FnN P w K mg base (ctOf K cls) 7 "behind" a6u a2u:=
 a1m (k:=6) L b55 fun f cdv A outer s H E hr=>
 (a0h (a0j (a08 H_turned (hr.mono (by first|decide|omega)) rfl (padN (a0a (pv 0)) (padS (a0i (ixd rfl) (a0a (pv 1)) a0e) (padS (a0i (ixd rfl) (a0a (pv 1)) a0e) a0d))))))
theorem a7M:a0r b4N a4A (a0g a3N):=⟨rfl,rfl,rfl,by decide +kernel,rfl,by decide +kernel,by decide +kernel⟩
theorem b2M (L:Laid K mg "add_walk" a3N a4A) (Z:Blt mg) (H_behind:FnN P w K mg base (ctOf K cls) 7 "behind" a6u a2u):FnP P w K mg base (ctOf K cls) 8 "add_walk" a4A a5F:=
 fn_laidP (k:=7) (j:=4) L a7M (by decide) fun f cdv A outer s H E hr=>
 (a0h (b1f (fun _=>5000) PassesOwn.never (PWD.pt (a2j (b3C (a0a (pv 1))) (a1Q (b2G (i:=4) rfl (hu9_of hr) (pv 4) (a0a (pv 1))))))
 (a0f (a0H (a0o a0L (pd_lenT (i:=4) rfl Z.len (pv 4)) (a0a (pv 3)))
 (a0h b6e)
 a0q)
 (a0f (b6g (i:=4) rfl (hu9_of hr) (pv 4) (a0a (pv 1)) (a0a (pv 2)))
 (a0h (psS (i:=1) a7M.nd rfl (a08 H_behind (hr.mono (by first|decide|omega)) rfl (padN (a0a (pv 0)) (padN (a0a (pv 1)) a0d)))))))))
theorem a5c:a0r b2O a3R (a0g a26):=⟨rfl,rfl,rfl,by decide +kernel,rfl,by decide +kernel,by decide +kernel⟩
theorem b1p (L:Laid K mg "starts_of" a26 a3R) (Z:Blt mg)  : FnN P w K mg base (ctOf K cls) 1 "starts_of" a3R a4O:=
 a1m (k:=0) L a5c fun f cdv A outer s H E hr=>
 (a0f (psS (i:=1) a5c.nd rfl (a1U a0d))
 (a0f (a67 PassesOwn.never rfl (a5Z rfl (a0a (pv 0))) (pbN a5c.nd rfl)
 (a0h (b4v (i:=1) rfl (pv 1) (a0i (ixd rfl) (a0a (pv 2)) a0e))))
 (a0B (i:=1) (a0h (a0j (a6m (a3H rfl) rfl Z.tuple L3.a2v (padN (a0a (pv 1)) a0d)))))))
theorem sc_begin:a0r n_begin a7T (a0g a65):=⟨rfl,rfl,rfl,by decide +kernel,rfl,by decide +kernel,by decide +kernel⟩
theorem ok_begin (L:Laid K mg "begin" a65 a7T) (Z:Blt mg) (H_starts_of:FnN P w K mg base (ctOf K cls) 1 "starts_of" a3R a4O):FnN P w K mg base (ctOf K cls) 2 "begin" a7T a8a:=
 a1m (k:=1) L sc_begin fun f cdv A outer s H E hr=>
 (a0h (a0j (a0l (padT (a0l (padT (a0l (padC a0e (padC a0e (padC a0e (padT (a0l a0d) a0d))))) a0d)) (padK (a08 H_starts_of (hr.mono (by first|decide|omega)) rfl (padS (a0i (ixd rfl) (a0a (pv 0)) a0e) a0d)) a0d)))))
theorem a7y:a0r n_table a7R (a0g a63):=⟨rfl,rfl,rfl,by decide +kernel,rfl,by decide +kernel,by decide +kernel⟩
theorem ok_table (L:LaidD K mg "table" a63 a7R (300)) (Z:Blt mg) (H_add_walk:FnP P w K mg base (ctOf K cls) 8 "add_walk" a4A a5F) (H_begin:FnN P w K mg base (ctOf K cls) 2 "begin" a7T a8a):FnND P w K mg base (ctOf K cls) 9 "table" a7R a79 (300):=
 fn_laidD (k:=8) L a7y fun f cdv A outer s H E hr=>
 (a0f (b6h (i:=3) a7y.nd rfl (by first|exact Or.inl rfl|exact Or.inr rfl))
 (a0f (b6f (pm_fn (i:=3) H_add_walk (hr.mono (by first|decide|omega)) rfl (a7A (a0a (pv 0)) (a7A (a08 H_begin (hr.mono (by first|decide|omega)) rfl (padN (a0a (pv 0)) a0d)) (a7A a0e (a7A (a0a (pv 2)) (pap_here (pv 3) a0d)))))))
 (a0f (psS (i:=4) a7y.nd rfl a0e)
 (a0f (a67 PassesOwn.never rfl (b4C rfl Z.range a0e (a0t (a0n rfl) (a0a (pv 1)) a0e)) (pbN a7y.nd rfl) b4t)
 (a0h (a0j (b6o (i:=3) rfl rfl Z.list (pv 3))))))))
theorem b03:a0r n_law p_law (a0g b2C):=⟨rfl,rfl,rfl,by decide +kernel,rfl,by decide +kernel,by decide +kernel⟩
theorem ok_law {f:Addr} {fd:FuncData} (L:Fun K "law" "law" b2C f fd) (Z:Blt mg) (H_law_alike:FnN P w K mg base (ctOf K cls) 9 "_law_alike" a3W a4S) (H_law_begin:FnN P w K mg base (ctOf K cls) 1 "_law_begin" a3V a4R) (H_law_behind:FnN P w K mg base (ctOf K cls) 3 "_law_behind" a3s a16) (H_law_mixed:FnN P w K mg base (ctOf K cls) 1 "_law_mixed" a1t a0y) (H_law_program:FnN P w K mg base (ctOf K cls) 5 "_law_program" a2T a3G) (H_table:FnND P w K mg base (ctOf K cls) 9 "table" a7R a79 (300)):FnOk P w K mg base CX0 10 f fd p_law (spD (ctOf K cls) W0 f_law):=
 fn_D (k:=9) L b03 fun cdv A outer s H E hr=>
 (a0f (psS (i:=1) b03.nd rfl (a08 H_law_program (hr.mono (by first|decide|omega)) rfl (padN (a0a (pv 0)) (padB (a0t a01 (a08 H_law_mixed (hr.mono (by first|decide|omega)) rfl (padN (a0a (pv 0)) (padC a0e a0d))) a0e) (padC a0e (padC a0e a0d))))))
 (a0f (psS (i:=2) b03.nd rfl (a1U a0d))
 (a0f (psS (i:=3) b03.nd rfl (a08 H_law_begin (hr.mono (by first|decide|omega)) rfl (padN (a0a (pv 1)) a0d)))
 (a0f (b1f (fun _=>5000) PassesOwn.never (b3C (a0a (pv 3)))
 (a0f (a4x (i:=2) (pv 2) (a0l (padN (a0a (pv 3)) (padC a0e a0d))))
 (a0h (psS (i:=3) b03.nd rfl (a08 H_law_behind (hr.mono (by first|decide|omega)) rfl (padN (a0a (pv 1)) (padN (a0a (pv 3)) a0d)))))))
 (a0B (i:=2) (a0h (a0j (a08 H_law_alike (hr.mono (by first|decide|omega)) rfl (padK (pd_fnDf H_table (hr.mono (by first|decide|omega)) rfl (padN (a0a (pv 1)) (padC a0e a0d))) (padN (a0a (pv 2)) a0d))))))))))
theorem ok_all (T:Defs K mg cls) (Z:Blt mg) {f:Addr} {fd:FuncData} (L:Fun K "law" "law" b2C f fd):FnOk P w K mg base CX0 10 f fd p_law (spD (ctOf K cls) W0 f_law):=by
 have h_law_alike:=@b1w P w K mg base cls T.L_law_alike Z
 have h_law_begin:=@b1v P w K mg base cls T.L_law_begin Z
 have h_law_turn_done:=@a7q P w K mg base cls T.L_law_turn_done Z
 have h_law_cells:=@b1t P w K mg base cls T.L_law_cells Z
 have h_law_turns:=@b1r P w K mg base cls T.L_law_turns Z h_law_cells
 have h_law_behind:=@a94 P w K mg base cls T.L_law_behind Z h_law_turn_done h_law_turns
 have h_law_mixed:=@b1s P w K mg base cls T.L_law_mixed Z
 have h_law_number:=@a93 P w K mg base cls T.L_law_number Z h_law_mixed
 have h_law_boxes:=@b1u P w K mg base cls T.L_law_boxes Z h_law_mixed h_law_number
 have h_law_deed:=@b2J P w K mg base cls T.L_law_deed Z h_law_mixed h_law_number
 have h_law_row:=@b4G P w K mg base cls T.L_law_row Z h_law_deed h_law_mixed
 have h_law_program:=@a8G P w K mg base cls T.L_law_program Z h_law_boxes h_law_mixed h_law_row
 have h_places_of:=@b1q P w K mg base cls T.L_places_of Z
 have h_deed_at:=@b4J P w K mg base cls T.L_deed_at Z h_places_of
 have h_size_of:=@b4F P w K mg base cls T.L_size_of Z
 have h_cells_of:=@b2L P w K mg base cls T.L_cells_of Z h_size_of
 have h_i_Deed:=@b6t P w K mg base cls T.L_i_Deed Z T.fld_plan
 have h_i_Handed:=@b2K P w K mg base cls T.L_i_Handed Z h_i_Deed
 have h_i_Anew:=@b6v P w K mg base cls T.L_i_Anew Z T.fld_check h_i_Handed
 have h_i_Promise:=@b1y P w K mg base cls T.L_i_Promise Z h_i_Deed
 have h_i_Comparing:=@a8I P w K mg base cls T.L_i_Comparing Z h_i_Promise
 have h_i_Copy:=@b6u P w K mg base cls T.L_i_Copy Z h_i_Deed
 have h_i_Grow:=@b6s P w K mg base cls T.L_i_Grow Z T.fld_number T.fld_size h_i_Handed
 have h_i_Put:=@ok_i_Put P w K mg base cls T.L_i_Put Z T.fld_numbers h_i_Deed
 have h_i_Still:=@b4H P w K mg base cls T.L_i_Still Z h_i_Deed
 have h_i_Tick:=@b6r P w K mg base cls T.L_i_Tick Z h_i_Deed
 have h_i_Untouched:=@a8H P w K mg base cls T.L_i_Untouched Z h_i_Promise
 have h_deed_of:=@b4I P w K mg base cls T.L_deed_of Z h_cells_of h_i_Anew h_i_Comparing h_i_Copy h_i_Grow h_i_Put h_i_Still h_i_Tick h_i_Untouched
 have h_is_at_end:=@b1x P w K mg base cls T.L_is_at_end Z h_places_of
 have h_Deed_reads:=@a98 P w K mg base cls T.L_Deed_reads Z T.fld_plan
 have h_Handed_laid:=@a8J P w K mg base cls T.L_Handed_laid Z h_Deed_reads
 have h_written:=@b4E P w K mg base cls T.L_written Z
 have h_Deed_turns:=@a97 P w K mg base cls T.L_Deed_turns Z T.fld_plan
 have h_Deed_writes:=@a8K P w K mg base cls T.L_Deed_writes Z T.fld_plan
 have h_Handed_set_down:=@a6v P w K mg base cls T.L_Handed_set_down Z h_written h_Deed_turns h_Deed_writes
 have h_Anew_after:=@b0b P w K mg base cls T.L_Anew_after Z T.fld_check h_Deed_reads h_Handed_laid h_Handed_set_down
 have h_Copy_after:=@b0a P w K mg base cls T.L_Copy_after Z h_written h_Deed_reads h_Deed_writes
 have h_Deed_after:=@a99 P w K mg base cls T.L_Deed_after Z
 have h_Grow_after:=@a96 P w K mg base cls T.L_Grow_after Z T.fld_number T.fld_size h_Handed_laid h_Handed_set_down
 have h_Put_after:=@b1z P w K mg base cls T.L_Put_after Z h_written T.fld_numbers h_Deed_writes
 have h_Tick_after:=@a95 P w K mg base cls T.L_Tick_after Z h_written h_Deed_writes
 have h_turned:=@b6q P w K mg base cls T.L_turned Z h_deed_at h_deed_of h_is_at_end h_Anew_after h_Copy_after h_Deed_after h_Deed_turns h_Grow_after h_Put_after h_Tick_after
 have h_behind:=@b6w P w K mg base cls T.L_behind Z h_turned
 have h_add_walk:=@b2M P w K mg base cls T.L_add_walk Z h_behind
 have h_starts_of:=@b1p P w K mg base cls T.L_starts_of Z
 have h_begin:=@ok_begin P w K mg base cls T.L_begin Z h_starts_of
 have h_table:=@ok_table P w K mg base cls T.L_table Z h_add_walk h_begin
 exact ok_law L Z h_law_alike h_law_begin h_law_behind h_law_mixed h_law_program h_table
end
unseal PySem.wpAny
theorem walk {l:PySem.W.OpenLaw} {q:Program} {loose:List Str} {XP:(Str->Option Value)->Heap->Prop} {YP:World->Heap->Prop} {d:DefRec} {K:Params->Frag} (T:∀ns:List Int,ns.length<=63->f_law [.lst (ns.map D.int)]=some (.ok (.sh (.bl true)))) (hn:l.most=some 63) (hdf:d.params.defaults=[]) (hdn:d.name = "law")
  (hY:∀(w:World) (h:Heap),YP w h->(K w.params).In h) (F:∀(w:World) (mg:Str->Option Value) (h:Heap),(K w.params).In h->h.Ns mainGlobals mg->(∃cls,Defs (K w.params) mg cls)/\Blt mg):PySem.W.WalkO q loose XP YP l.row.toRowW d [] (fun f vs=>PySem.call f vs):=
 law_walk (k:=10) (x := "_law_script") (by decide) hn hdf hY fun w mg fa h KX G hm=>by
  obtain ⟨⟨cls,T1⟩,Z⟩:=F w mg h KX G
  obtain ⟨f,fd,Fl,hm2,_⟩:=T1.L_law.ex
  rw [hdn,hm2] at hm
  cases hm
  obtain ⟨oc,od,kV,doc,pm,an,cdv,ct,osl,e,_⟩:=id Fl.ex
  exact ⟨fd,fun s u=>by rw [e];exact .of_eq rfl,fun base=>law_sp (ok_all (cls:=cls) T1 Z Fl) rfl rfl T⟩
set_option maxHeartbeats 0 in
theorem defs_mk {K:Frag} {h:Heap} {mg:Str->Option Value} (X:K.In h) (G:h.Ns mainGlobals mg)
  {C0 C1 C2 C3 C4 C5 C6 C7 C8 C9 C10:Addr}
  {g0:Addr} {oc0:Value} {od0 an0:Option Addr} {sl0:Array (Option Value)} {kV0 dc0 pm0 cd0 ct0:Value}
  {g1:Addr} {oc1:Value} {od1 an1:Option Addr} {sl1:Array (Option Value)} {kV1 dc1 pm1 cd1 ct1:Value}
  {g2:Addr} {oc2:Value} {od2 an2:Option Addr} {sl2:Array (Option Value)} {kV2 dc2 pm2 cd2 ct2:Value}
  {g3:Addr} {oc3:Value} {od3 an3:Option Addr} {sl3:Array (Option Value)} {kV3 dc3 pm3 cd3 ct3:Value}
  {g4:Addr} {oc4:Value} {od4 an4:Option Addr} {sl4:Array (Option Value)} {kV4 dc4 pm4 cd4 ct4:Value}
  {g5:Addr} {oc5:Value} {od5 an5:Option Addr} {sl5:Array (Option Value)} {kV5 dc5 pm5 cd5 ct5:Value}
  {g6:Addr} {oc6:Value} {od6 an6:Option Addr} {sl6:Array (Option Value)} {kV6 dc6 pm6 cd6 ct6:Value}
  {g7:Addr} {oc7:Value} {od7 an7:Option Addr} {sl7:Array (Option Value)} {kV7 dc7 pm7 cd7 ct7:Value}
  {g8:Addr} {oc8:Value} {od8 an8:Option Addr} {sl8:Array (Option Value)} {kV8 dc8 pm8 cd8 ct8:Value}
  {g9:Addr} {oc9:Value} {od9 an9:Option Addr} {sl9:Array (Option Value)} {kV9 dc9 pm9 cd9 ct9:Value}
  {g10:Addr} {oc10:Value} {od10 an10:Option Addr} {sl10:Array (Option Value)} {kV10 dc10 pm10 cd10 ct10:Value}
  {g11:Addr} {oc11:Value} {od11 an11:Option Addr} {sl11:Array (Option Value)} {kV11 dc11 pm11 cd11 ct11:Value}
  {g12:Addr} {oc12:Value} {od12 an12:Option Addr} {sl12:Array (Option Value)} {kV12 dc12 pm12 cd12 ct12:Value}
  {g13:Addr} {oc13:Value} {od13 an13:Option Addr} {sl13:Array (Option Value)} {kV13 dc13 pm13 cd13 ct13:Value}
  {g14:Addr} {oc14:Value} {od14 an14:Option Addr} {sl14:Array (Option Value)} {kV14 dc14 pm14 cd14 ct14:Value}
  {g15:Addr} {oc15:Value} {od15 an15:Option Addr} {sl15:Array (Option Value)} {kV15 dc15 pm15 cd15 ct15:Value}
  {g16:Addr} {oc16:Value} {od16 an16:Option Addr} {sl16:Array (Option Value)} {kV16 dc16 pm16 cd16 ct16:Value}
  {g17:Addr} {oc17:Value} {od17 an17:Option Addr} {sl17:Array (Option Value)} {kV17 dc17 pm17 cd17 ct17:Value}
  {g18:Addr} {oc18:Value} {od18 an18:Option Addr} {sl18:Array (Option Value)} {kV18 dc18 pm18 cd18 ct18:Value}
  {g19:Addr} {oc19:Value} {od19 an19:Option Addr} {sl19:Array (Option Value)} {kV19 dc19 pm19 cd19 ct19:Value}
  {g20:Addr} {oc20:Value} {od20 an20:Option Addr} {sl20:Array (Option Value)} {kV20 dc20 pm20 cd20 ct20:Value}
  {g21:Addr} {oc21:Value} {od21 an21:Option Addr} {sl21:Array (Option Value)} {kV21 dc21 pm21 cd21 ct21:Value}
  {g22:Addr} {oc22:Value} {od22 an22:Option Addr} {sl22:Array (Option Value)} {kV22 dc22 pm22 cd22 ct22:Value}
  {g23:Addr} {oc23:Value} {od23 an23:Option Addr} {sl23:Array (Option Value)} {kV23 dc23 pm23 cd23 ct23:Value}
  {g24:Addr} {oc24:Value} {od24 an24:Option Addr} {sl24:Array (Option Value)} {kV24 dc24 pm24 cd24 ct24:Value}
  {g25:Addr} {oc25:Value} {od25 an25:Option Addr} {sl25:Array (Option Value)} {kV25 dc25 pm25 cd25 ct25:Value}
  {g26:Addr} {oc26:Value} {od26 an26:Option Addr} {sl26:Array (Option Value)} {kV26 dc26 pm26 cd26 ct26:Value}
  {g27:Addr} {oc27:Value} {od27 an27:Option Addr} {sl27:Array (Option Value)} {kV27 dc27 pm27 cd27 ct27:Value}
  {g28:Addr} {oc28:Value} {od28 an28:Option Addr} {sl28:Array (Option Value)} {kV28 dc28 pm28 cd28 ct28:Value}
  {g29:Addr} {oc29:Value} {od29 an29:Option Addr} {sl29:Array (Option Value)} {kV29 dc29 pm29 cd29 ct29:Value}
  {g30:Addr} {oc30:Value} {od30 an30:Option Addr} {sl30:Array (Option Value)} {kV30 dc30 pm30 cd30 ct30:Value}
  {g31:Addr} {oc31:Value} {od31 an31:Option Addr} {sl31:Array (Option Value)} {kV31 dc31 pm31 cd31 ct31:Value}
  {g32:Addr} {oc32:Value} {od32 an32:Option Addr} {sl32:Array (Option Value)} {kV32 dc32 pm32 cd32 ct32:Value}
  {g33:Addr} {oc33:Value} {od33 an33:Option Addr} {sl33:Array (Option Value)} {kV33 dc33 pm33 cd33 ct33:Value}
  {g34:Addr} {oc34:Value} {od34 an34:Option Addr} {sl34:Array (Option Value)} {kV34 dc34 pm34 cd34 ct34:Value}
  {g35:Addr} {oc35:Value} {od35 an35:Option Addr} {sl35:Array (Option Value)} {kV35 dc35 pm35 cd35 ct35:Value}
  {g36:Addr} {oc36:Value} {od36 an36:Option Addr} {sl36:Array (Option Value)} {kV36 dc36 pm36 cd36 ct36:Value}
  {g37:Addr} {oc37:Value} {od37 an37:Option Addr} {sl37:Array (Option Value)} {kV37 dc37 pm37 cd37 ct37:Value}
  {g38:Addr} {oc38:Value} {od38 an38:Option Addr} {sl38:Array (Option Value)} {kV38 dc38 pm38 cd38 ct38:Value}
  {g39:Addr} {oc39:Value} {od39 an39:Option Addr} {sl39:Array (Option Value)} {kV39 dc39 pm39 cd39 ct39:Value}
  {g40:Addr} {oc40:Value} {od40 an40:Option Addr} {sl40:Array (Option Value)} {kV40 dc40 pm40 cd40 ct40:Value}
  {g41:Addr} {oc41:Value} {od41 an41:Option Addr} {sl41:Array (Option Value)} {kV41 dc41 pm41 cd41 ct41:Value}
  {g42:Addr} {oc42:Value} {od42 an42:Option Addr} {sl42:Array (Option Value)} {kV42 dc42 pm42 cd42 ct42:Value}
  {g43:Addr} {oc43:Value} {od43 an43:Option Addr} {sl43:Array (Option Value)} {kV43 dc43 pm43 cd43 ct43:Value}
  {g44:Addr} {oc44:Value} {od44 an44:Option Addr} {sl44:Array (Option Value)} {kV44 dc44 pm44 cd44 ct44:Value}
  {g45:Addr} {oc45:Value} {od45 an45:Option Addr} {sl45:Array (Option Value)} {kV45 dc45 pm45 cd45 ct45:Value}
  {g46:Addr} {oc46:Value} {od46 an46:Option Addr} {sl46:Array (Option Value)} {kV46 dc46 pm46 cd46 ct46:Value}
  {td46:Addr} {tc46:Value} {te46:Option Addr} {tn46:Nat} {tt46:Tok} {ts46:Array (Option Value)}
  {g47:Addr} {oc47:Value} {od47 an47:Option Addr} {sl47:Array (Option Value)} {kV47 dc47 pm47 cd47 ct47:Value}
  (ca0:nsIn K mainGlobals "Deed" = some (some (.ref C0)))
  (cp0:plainGet K C0 Str.empty=true)
  (ch0:hasDictIn K C0=true)
  (co0:plainOver K C0=true)
  (cs0:findIn K (.ref C0) "__setattr__" = some (some (.builtin "object.__setattr__")))
  (ca1:nsIn K mainGlobals "Promise" = some (some (.ref C1)))
  (cp1:plainGet K C1 Str.empty=true)
  (ch1:hasDictIn K C1=true)
  (co1:plainOver K C1=true)
  (cs1:findIn K (.ref C1) "__setattr__" = some (some (.builtin "object.__setattr__")))
  (ca2:nsIn K mainGlobals "Comparing" = some (some (.ref C2)))
  (cp2:plainGet K C2 Str.empty=true)
  (ch2:hasDictIn K C2=true)
  (co2:plainOver K C2=true)
  (cs2:findIn K (.ref C2) "__setattr__" = some (some (.builtin "object.__setattr__")))
  (ca3:nsIn K mainGlobals "Untouched" = some (some (.ref C3)))
  (cp3:plainGet K C3 Str.empty=true)
  (ch3:hasDictIn K C3=true)
  (co3:plainOver K C3=true)
  (cs3:findIn K (.ref C3) "__setattr__" = some (some (.builtin "object.__setattr__")))
  (ca4:nsIn K mainGlobals "Still" = some (some (.ref C4)))
  (cp4:plainGet K C4 Str.empty=true)
  (ch4:hasDictIn K C4=true)
  (co4:plainOver K C4=true)
  (cs4:findIn K (.ref C4) "__setattr__" = some (some (.builtin "object.__setattr__")))
  (ca5:nsIn K mainGlobals "Put" = some (some (.ref C5)))
  (cp5:plainGet K C5 Str.empty=true)
  (ch5:hasDictIn K C5=true)
  (co5:plainOver K C5=true)
  (cs5:findIn K (.ref C5) "__setattr__" = some (some (.builtin "object.__setattr__")))
  (ca6:nsIn K mainGlobals "Copy" = some (some (.ref C6)))
  (cp6:plainGet K C6 Str.empty=true)
  (ch6:hasDictIn K C6=true)
  (co6:plainOver K C6=true)
  (cs6:findIn K (.ref C6) "__setattr__" = some (some (.builtin "object.__setattr__")))
  (ca7:nsIn K mainGlobals "Tick" = some (some (.ref C7)))
  (cp7:plainGet K C7 Str.empty=true)
  (ch7:hasDictIn K C7=true)
  (co7:plainOver K C7=true)
  (cs7:findIn K (.ref C7) "__setattr__" = some (some (.builtin "object.__setattr__")))
  (ca8:nsIn K mainGlobals "Handed" = some (some (.ref C8)))
  (cp8:plainGet K C8 Str.empty=true)
  (ch8:hasDictIn K C8=true)
  (co8:plainOver K C8=true)
  (cs8:findIn K (.ref C8) "__setattr__" = some (some (.builtin "object.__setattr__")))
  (ca9:nsIn K mainGlobals "Grow" = some (some (.ref C9)))
  (cp9:plainGet K C9 Str.empty=true)
  (ch9:hasDictIn K C9=true)
  (co9:plainOver K C9=true)
  (cs9:findIn K (.ref C9) "__setattr__" = some (some (.builtin "object.__setattr__")))
  (ca10:nsIn K mainGlobals "Anew" = some (some (.ref C10)))
  (cp10:plainGet K C10 Str.empty=true)
  (ch10:hasDictIn K C10=true)
  (co10:plainOver K C10=true)
  (cs10:findIn K (.ref C10) "__setattr__" = some (some (.builtin "object.__setattr__")))
  (a0:nsIn K mainGlobals "_law_alike" = some (some (.ref g0)))
  (l0:K.lookup g0=some ⟨oc0,od0,.func (fnOf "_law_alike" "_law_alike" (a0p a3f) (a0k a3f) (a0g a3f) .none kV0 dc0 pm0 an0 cd0 ct0),sl0⟩)
  (c0:codeIn K cd0 "_law_alike" = true)
  (k0:keepIn K (.ref g0)=true)
  (a1:nsIn K mainGlobals "_law_begin" = some (some (.ref g1)))
  (l1:K.lookup g1=some ⟨oc1,od1,.func (fnOf "_law_begin" "_law_begin" (a0p a3e) (a0k a3e) (a0g a3e) .none kV1 dc1 pm1 an1 cd1 ct1),sl1⟩)
  (c1:codeIn K cd1 "_law_begin" = true)
  (k1:keepIn K (.ref g1)=true)
  (a2:nsIn K mainGlobals "_law_turn_done" = some (some (.ref g2)))
  (l2:K.lookup g2=some ⟨oc2,od2,.func (fnOf "_law_turn_done" "_law_turn_done" (a0p a1z) (a0k a1z) (a0g a1z) .none kV2 dc2 pm2 an2 cd2 ct2),sl2⟩)
  (c2:codeIn K cd2 "_law_turn_done" = true)
  (k2:keepIn K (.ref g2)=true)
  (a3:nsIn K mainGlobals "_law_cells" = some (some (.ref g3)))
  (l3:K.lookup g3=some ⟨oc3,od3,.func (fnOf "_law_cells" "_law_cells" (a0p a3c) (a0k a3c) (a0g a3c) .none kV3 dc3 pm3 an3 cd3 ct3),sl3⟩)
  (c3:codeIn K cd3 "_law_cells" = true)
  (k3:keepIn K (.ref g3)=true)
  (a4:nsIn K mainGlobals "_law_turns" = some (some (.ref g4)))
  (l4:K.lookup g4=some ⟨oc4,od4,.func (fnOf "_law_turns" "_law_turns" (a0p a3a) (a0k a3a) (a0g a3a) .none kV4 dc4 pm4 an4 cd4 ct4),sl4⟩)
  (c4:codeIn K cd4 "_law_turns" = true)
  (k4:keepIn K (.ref g4)=true)
  (a5:nsIn K mainGlobals "_law_behind" = some (some (.ref g5)))
  (l5:K.lookup g5=some ⟨oc5,od5,.func (fnOf "_law_behind" "_law_behind" (a0p a2B) (a0k a2B) (a0g a2B) .none kV5 dc5 pm5 an5 cd5 ct5),sl5⟩)
  (c5:codeIn K cd5 "_law_behind" = true)
  (k5:keepIn K (.ref g5)=true)
  (a6:nsIn K mainGlobals "_law_mixed" = some (some (.ref g6)))
  (l6:K.lookup g6=some ⟨oc6,od6,.func (fnOf "_law_mixed" "_law_mixed" (a0p a3b) (a0k a3b) (a0g a3b) .none kV6 dc6 pm6 an6 cd6 ct6),sl6⟩)
  (c6:codeIn K cd6 "_law_mixed" = true)
  (k6:keepIn K (.ref g6)=true)
  (a7:nsIn K mainGlobals "_law_number" = some (some (.ref g7)))
  (l7:K.lookup g7=some ⟨oc7,od7,.func (fnOf "_law_number" "_law_number" (a0p a2A) (a0k a2A) (a0g a2A) .none kV7 dc7 pm7 an7 cd7 ct7),sl7⟩)
  (c7:codeIn K cd7 "_law_number" = true)
  (k7:keepIn K (.ref g7)=true)
  (a8:nsIn K mainGlobals "_law_boxes" = some (some (.ref g8)))
  (l8:K.lookup g8=some ⟨oc8,od8,.func (fnOf "_law_boxes" "_law_boxes" (a0p a3d) (a0k a3d) (a0g a3d) .none kV8 dc8 pm8 an8 cd8 ct8),sl8⟩)
  (c8:codeIn K cd8 "_law_boxes" = true)
  (k8:keepIn K (.ref g8)=true)
  (a9:nsIn K mainGlobals "_law_deed" = some (some (.ref g9)))
  (l9:K.lookup g9=some ⟨oc9,od9,.func (fnOf "_law_deed" "_law_deed" (a0p a3K) (a0k a3K) (a0g a3K) .none kV9 dc9 pm9 an9 cd9 ct9),sl9⟩)
  (c9:codeIn K cd9 "_law_deed" = true)
  (k9:keepIn K (.ref g9)=true)
  (a10:nsIn K mainGlobals "_law_row" = some (some (.ref g10)))
  (l10:K.lookup g10=some ⟨oc10,od10,.func (fnOf "_law_row" "_law_row" (a0p a4t) (a0k a4t) (a0g a4t) .none kV10 dc10 pm10 an10 cd10 ct10),sl10⟩)
  (c10:codeIn K cd10 "_law_row" = true)
  (k10:keepIn K (.ref g10)=true)
  (a11:nsIn K mainGlobals "_law_program" = some (some (.ref g11)))
  (l11:K.lookup g11=some ⟨oc11,od11,.func (fnOf "_law_program" "_law_program" (a0p a2a) (a0k a2a) (a0g a2a) .none kV11 dc11 pm11 an11 cd11 ct11),sl11⟩)
  (c11:codeIn K cd11 "_law_program" = true)
  (k11:keepIn K (.ref g11)=true)
  (a12:nsIn K mainGlobals "places_of" = some (some (.ref g12)))
  (l12:K.lookup g12=some ⟨oc12,od12,.func (fnOf "places_of" "places_of" (a0p a29) (a0k a29) (a0g a29) .none kV12 dc12 pm12 an12 cd12 ct12),sl12⟩)
  (c12:codeIn K cd12 "places_of" = true)
  (k12:keepIn K (.ref g12)=true)
  (a13:nsIn K mainGlobals "deed_at" = some (some (.ref g13)))
  (l13:K.lookup g13=some ⟨oc13,od13,.func (fnOf "deed_at" "deed_at" (a0p a4w) (a0k a4w) (a0g a4w) .none kV13 dc13 pm13 an13 cd13 ct13),sl13⟩)
  (c13:codeIn K cd13 "deed_at" = true)
  (k13:keepIn K (.ref g13)=true)
  (a14:nsIn K mainGlobals "size_of" = some (some (.ref g14)))
  (l14:K.lookup g14=some ⟨oc14,od14,.func (fnOf "size_of" "size_of" (a0p a4s) (a0k a4s) (a0g a4s) .none kV14 dc14 pm14 an14 cd14 ct14),sl14⟩)
  (c14:codeIn K cd14 "size_of" = true)
  (k14:keepIn K (.ref g14)=true)
  (a15:nsIn K mainGlobals "cells_of" = some (some (.ref g15)))
  (l15:K.lookup g15=some ⟨oc15,od15,.func (fnOf "cells_of" "cells_of" (a0p a3M) (a0k a3M) (a0g a3M) .none kV15 dc15 pm15 an15 cd15 ct15),sl15⟩)
  (c15:codeIn K cd15 "cells_of" = true)
  (k15:keepIn K (.ref g15)=true)
  (f16:findIn K (.ref C0) "__init__" = some (some (.ref g16)))
  (l16:K.lookup g16=some ⟨oc16,od16,.func (fnOf "__init__" "Deed.__init__" (a0p a5w) (a0k a5w) (a0g a5w) .none kV16 dc16 pm16 an16 cd16 ct16),sl16⟩)
  (c16:codeIn K cd16 "Deed.__init__" = true)
  (k16:keepIn K (.ref g16)=true)
  (i16:isFn K (.ref g16)=true)
  (m16:makesIn K C0=true)
  (n16:keepIn K (.ref C0)=true)
  (o16:findCls K (.ref C0) (.type "type") "__init__" = some (.val (.ref g16)))
  (q16:specialIn K (.ref C0) "__getattribute__" = some (some (.builtin "type.__getattribute__")))
  (r16:readsIn K C0 (.type "type")=true)
  (f17:findIn K (.ref C8) "__init__" = some (some (.ref g17)))
  (l17:K.lookup g17=some ⟨oc17,od17,.func (fnOf "__init__" "Handed.__init__" (a0p a3L) (a0k a3L) (a0g a3L) .none kV17 dc17 pm17 an17 cd17 ct17),sl17⟩)
  (c17:codeIn K cd17 "Handed.__init__" = true)
  (k17:keepIn K (.ref g17)=true)
  (i17:isFn K (.ref g17)=true)
  (m17:makesIn K C8=true)
  (n17:keepIn K (.ref C8)=true)
  (o17:findCls K (.ref C8) (.type "type") "__init__" = some (.val (.ref g17)))
  (q17:specialIn K (.ref C8) "__getattribute__" = some (some (.builtin "type.__getattribute__")))
  (r17:readsIn K C8 (.type "type")=true)
  (f18:findIn K (.ref C10) "__init__" = some (some (.ref g18)))
  (l18:K.lookup g18=some ⟨oc18,od18,.func (fnOf "__init__" "Anew.__init__" (a0p a5y) (a0k a5y) (a0g a5y) .none kV18 dc18 pm18 an18 cd18 ct18),sl18⟩)
  (c18:codeIn K cd18 "Anew.__init__" = true)
  (k18:keepIn K (.ref g18)=true)
  (i18:isFn K (.ref g18)=true)
  (m18:makesIn K C10=true)
  (n18:keepIn K (.ref C10)=true)
  (o18:findCls K (.ref C10) (.type "type") "__init__" = some (.val (.ref g18)))
  (q18:specialIn K (.ref C10) "__getattribute__" = some (some (.builtin "type.__getattribute__")))
  (r18:readsIn K C10 (.type "type")=true)
  (f19:findIn K (.ref C1) "__init__" = some (some (.ref g19)))
  (l19:K.lookup g19=some ⟨oc19,od19,.func (fnOf "__init__" "Promise.__init__" (a0p a3h) (a0k a3h) (a0g a3h) .none kV19 dc19 pm19 an19 cd19 ct19),sl19⟩)
  (c19:codeIn K cd19 "Promise.__init__" = true)
  (k19:keepIn K (.ref g19)=true)
  (i19:isFn K (.ref g19)=true)
  (m19:makesIn K C1=true)
  (n19:keepIn K (.ref C1)=true)
  (o19:findCls K (.ref C1) (.type "type") "__init__" = some (.val (.ref g19)))
  (q19:specialIn K (.ref C1) "__getattribute__" = some (some (.builtin "type.__getattribute__")))
  (r19:readsIn K C1 (.type "type")=true)
  (f20:findIn K (.ref C2) "__init__" = some (some (.ref g20)))
  (l20:K.lookup g20=some ⟨oc20,od20,.func (fnOf "__init__" "Comparing.__init__" (a0p a2c) (a0k a2c) (a0g a2c) .none kV20 dc20 pm20 an20 cd20 ct20),sl20⟩)
  (c20:codeIn K cd20 "Comparing.__init__" = true)
  (k20:keepIn K (.ref g20)=true)
  (i20:isFn K (.ref g20)=true)
  (m20:makesIn K C2=true)
  (n20:keepIn K (.ref C2)=true)
  (o20:findCls K (.ref C2) (.type "type") "__init__" = some (.val (.ref g20)))
  (q20:specialIn K (.ref C2) "__getattribute__" = some (some (.builtin "type.__getattribute__")))
  (r20:readsIn K C2 (.type "type")=true)
  (f21:findIn K (.ref C6) "__init__" = some (some (.ref g21)))
  (l21:K.lookup g21=some ⟨oc21,od21,.func (fnOf "__init__" "Copy.__init__" (a0p a5x) (a0k a5x) (a0g a5x) .none kV21 dc21 pm21 an21 cd21 ct21),sl21⟩)
  (c21:codeIn K cd21 "Copy.__init__" = true)
  (k21:keepIn K (.ref g21)=true)
  (i21:isFn K (.ref g21)=true)
  (m21:makesIn K C6=true)
  (n21:keepIn K (.ref C6)=true)
  (o21:findCls K (.ref C6) (.type "type") "__init__" = some (.val (.ref g21)))
  (q21:specialIn K (.ref C6) "__getattribute__" = some (some (.builtin "type.__getattribute__")))
  (r21:readsIn K C6 (.type "type")=true)
  (f22:findIn K (.ref C9) "__init__" = some (some (.ref g22)))
  (l22:K.lookup g22=some ⟨oc22,od22,.func (fnOf "__init__" "Grow.__init__" (a0p a5v) (a0k a5v) (a0g a5v) .none kV22 dc22 pm22 an22 cd22 ct22),sl22⟩)
  (c22:codeIn K cd22 "Grow.__init__" = true)
  (k22:keepIn K (.ref g22)=true)
  (i22:isFn K (.ref g22)=true)
  (m22:makesIn K C9=true)
  (n22:keepIn K (.ref C9)=true)
  (o22:findCls K (.ref C9) (.type "type") "__init__" = some (.val (.ref g22)))
  (q22:specialIn K (.ref C9) "__getattribute__" = some (some (.builtin "type.__getattribute__")))
  (r22:readsIn K C9 (.type "type")=true)
  (f23:findIn K (.ref C5) "__init__" = some (some (.ref g23)))
  (l23:K.lookup g23=some ⟨oc23,od23,.func (fnOf "__init__" "Put.__init__" (a0p a64) (a0k a64) (a0g a64) .none kV23 dc23 pm23 an23 cd23 ct23),sl23⟩)
  (c23:codeIn K cd23 "Put.__init__" = true)
  (k23:keepIn K (.ref g23)=true)
  (i23:isFn K (.ref g23)=true)
  (m23:makesIn K C5=true)
  (n23:keepIn K (.ref C5)=true)
  (o23:findCls K (.ref C5) (.type "type") "__init__" = some (.val (.ref g23)))
  (q23:specialIn K (.ref C5) "__getattribute__" = some (some (.builtin "type.__getattribute__")))
  (r23:readsIn K C5 (.type "type")=true)
  (f24:findIn K (.ref C4) "__init__" = some (some (.ref g24)))
  (l24:K.lookup g24=some ⟨oc24,od24,.func (fnOf "__init__" "Still.__init__" (a0p a4u) (a0k a4u) (a0g a4u) .none kV24 dc24 pm24 an24 cd24 ct24),sl24⟩)
  (c24:codeIn K cd24 "Still.__init__" = true)
  (k24:keepIn K (.ref g24)=true)
  (i24:isFn K (.ref g24)=true)
  (m24:makesIn K C4=true)
  (n24:keepIn K (.ref C4)=true)
  (o24:findCls K (.ref C4) (.type "type") "__init__" = some (.val (.ref g24)))
  (q24:specialIn K (.ref C4) "__getattribute__" = some (some (.builtin "type.__getattribute__")))
  (r24:readsIn K C4 (.type "type")=true)
  (f25:findIn K (.ref C7) "__init__" = some (some (.ref g25)))
  (l25:K.lookup g25=some ⟨oc25,od25,.func (fnOf "__init__" "Tick.__init__" (a0p a5u) (a0k a5u) (a0g a5u) .none kV25 dc25 pm25 an25 cd25 ct25),sl25⟩)
  (c25:codeIn K cd25 "Tick.__init__" = true)
  (k25:keepIn K (.ref g25)=true)
  (i25:isFn K (.ref g25)=true)
  (m25:makesIn K C7=true)
  (n25:keepIn K (.ref C7)=true)
  (o25:findCls K (.ref C7) (.type "type") "__init__" = some (.val (.ref g25)))
  (q25:specialIn K (.ref C7) "__getattribute__" = some (some (.builtin "type.__getattribute__")))
  (r25:readsIn K C7 (.type "type")=true)
  (f26:findIn K (.ref C3) "__init__" = some (some (.ref g26)))
  (l26:K.lookup g26=some ⟨oc26,od26,.func (fnOf "__init__" "Untouched.__init__" (a0p a2b) (a0k a2b) (a0g a2b) .none kV26 dc26 pm26 an26 cd26 ct26),sl26⟩)
  (c26:codeIn K cd26 "Untouched.__init__" = true)
  (k26:keepIn K (.ref g26)=true)
  (i26:isFn K (.ref g26)=true)
  (m26:makesIn K C3=true)
  (n26:keepIn K (.ref C3)=true)
  (o26:findCls K (.ref C3) (.type "type") "__init__" = some (.val (.ref g26)))
  (q26:specialIn K (.ref C3) "__getattribute__" = some (some (.builtin "type.__getattribute__")))
  (r26:readsIn K C3 (.type "type")=true)
  (a27:nsIn K mainGlobals "deed_of" = some (some (.ref g27)))
  (l27:K.lookup g27=some ⟨oc27,od27,.func (fnOf "deed_of" "deed_of" (a0p a4v) (a0k a4v) (a0g a4v) .none kV27 dc27 pm27 an27 cd27 ct27),sl27⟩)
  (c27:codeIn K cd27 "deed_of" = true)
  (k27:keepIn K (.ref g27)=true)
  (a28:nsIn K mainGlobals "is_at_end" = some (some (.ref g28)))
  (l28:K.lookup g28=some ⟨oc28,od28,.func (fnOf "is_at_end" "is_at_end" (a0p a3g) (a0k a3g) (a0g a3g) .none kV28 dc28 pm28 an28 cd28 ct28),sl28⟩)
  (c28:codeIn K cd28 "is_at_end" = true)
  (k28:keepIn K (.ref g28)=true)
  (f29_0:findIn K (.ref C0) "reads" = some (some (.ref g29)))
  (f29_1:findIn K (.ref C1) "reads" = some (some (.ref g29)))
  (f29_2:findIn K (.ref C2) "reads" = some (some (.ref g29)))
  (f29_3:findIn K (.ref C3) "reads" = some (some (.ref g29)))
  (f29_4:findIn K (.ref C4) "reads" = some (some (.ref g29)))
  (f29_5:findIn K (.ref C5) "reads" = some (some (.ref g29)))
  (f29_6:findIn K (.ref C6) "reads" = some (some (.ref g29)))
  (f29_7:findIn K (.ref C7) "reads" = some (some (.ref g29)))
  (f29_8:findIn K (.ref C8) "reads" = some (some (.ref g29)))
  (f29_9:findIn K (.ref C9) "reads" = some (some (.ref g29)))
  (f29_10:findIn K (.ref C10) "reads" = some (some (.ref g29)))
  (l29:K.lookup g29=some ⟨oc29,od29,.func (fnOf "reads" "Deed.reads" (a0p a2F) (a0k a2F) (a0g a2F) .none kV29 dc29 pm29 an29 cd29 ct29),sl29⟩)
  (c29:codeIn K cd29 "Deed.reads" = true)
  (k29:keepIn K (.ref g29)=true)
  (i29:isFn K (.ref g29)=true)
  (f30_8:findIn K (.ref C8) "laid" = some (some (.ref g30)))
  (f30_9:findIn K (.ref C9) "laid" = some (some (.ref g30)))
  (f30_10:findIn K (.ref C10) "laid" = some (some (.ref g30)))
  (l30:K.lookup g30=some ⟨oc30,od30,.func (fnOf "laid" "Handed.laid" (a0p a2d) (a0k a2d) (a0g a2d) .none kV30 dc30 pm30 an30 cd30 ct30),sl30⟩)
  (c30:codeIn K cd30 "Handed.laid" = true)
  (k30:keepIn K (.ref g30)=true)
  (i30:isFn K (.ref g30)=true)
  (a31:nsIn K mainGlobals "written" = some (some (.ref g31)))
  (l31:K.lookup g31=some ⟨oc31,od31,.func (fnOf "written" "written" (a0p a4r) (a0k a4r) (a0g a4r) .none kV31 dc31 pm31 an31 cd31 ct31),sl31⟩)
  (c31:codeIn K cd31 "written" = true)
  (k31:keepIn K (.ref g31)=true)
  (f32_0:findIn K (.ref C0) "turns" = some (some (.ref g32)))
  (f32_1:findIn K (.ref C1) "turns" = some (some (.ref g32)))
  (f32_2:findIn K (.ref C2) "turns" = some (some (.ref g32)))
  (f32_3:findIn K (.ref C3) "turns" = some (some (.ref g32)))
  (f32_4:findIn K (.ref C4) "turns" = some (some (.ref g32)))
  (f32_5:findIn K (.ref C5) "turns" = some (some (.ref g32)))
  (f32_6:findIn K (.ref C6) "turns" = some (some (.ref g32)))
  (f32_7:findIn K (.ref C7) "turns" = some (some (.ref g32)))
  (f32_8:findIn K (.ref C8) "turns" = some (some (.ref g32)))
  (f32_9:findIn K (.ref C9) "turns" = some (some (.ref g32)))
  (f32_10:findIn K (.ref C10) "turns" = some (some (.ref g32)))
  (l32:K.lookup g32=some ⟨oc32,od32,.func (fnOf "turns" "Deed.turns" (a0p a2E) (a0k a2E) (a0g a2E) .none kV32 dc32 pm32 an32 cd32 ct32),sl32⟩)
  (c32:codeIn K cd32 "Deed.turns" = true)
  (k32:keepIn K (.ref g32)=true)
  (i32:isFn K (.ref g32)=true)
  (f33_0:findIn K (.ref C0) "writes" = some (some (.ref g33)))
  (f33_1:findIn K (.ref C1) "writes" = some (some (.ref g33)))
  (f33_2:findIn K (.ref C2) "writes" = some (some (.ref g33)))
  (f33_3:findIn K (.ref C3) "writes" = some (some (.ref g33)))
  (f33_4:findIn K (.ref C4) "writes" = some (some (.ref g33)))
  (f33_5:findIn K (.ref C5) "writes" = some (some (.ref g33)))
  (f33_6:findIn K (.ref C6) "writes" = some (some (.ref g33)))
  (f33_7:findIn K (.ref C7) "writes" = some (some (.ref g33)))
  (f33_8:findIn K (.ref C8) "writes" = some (some (.ref g33)))
  (f33_9:findIn K (.ref C9) "writes" = some (some (.ref g33)))
  (f33_10:findIn K (.ref C10) "writes" = some (some (.ref g33)))
  (l33:K.lookup g33=some ⟨oc33,od33,.func (fnOf "writes" "Deed.writes" (a0p a2e) (a0k a2e) (a0g a2e) .none kV33 dc33 pm33 an33 cd33 ct33),sl33⟩)
  (c33:codeIn K cd33 "Deed.writes" = true)
  (k33:keepIn K (.ref g33)=true)
  (i33:isFn K (.ref g33)=true)
  (f34_8:findIn K (.ref C8) "set_down" = some (some (.ref g34)))
  (f34_9:findIn K (.ref C9) "set_down" = some (some (.ref g34)))
  (f34_10:findIn K (.ref C10) "set_down" = some (some (.ref g34)))
  (l34:K.lookup g34=some ⟨oc34,od34,.func (fnOf "set_down" "Handed.set_down" (a0p a1d) (a0k a1d) (a0g a1d) .none kV34 dc34 pm34 an34 cd34 ct34),sl34⟩)
  (c34:codeIn K cd34 "Handed.set_down" = true)
  (k34:keepIn K (.ref g34)=true)
  (i34:isFn K (.ref g34)=true)
  (f35_10:findIn K (.ref C10) "after" = some (some (.ref g35)))
  (l35:K.lookup g35=some ⟨oc35,od35,.func (fnOf "after" "Anew.after" (a0p a2I) (a0k a2I) (a0g a2I) .none kV35 dc35 pm35 an35 cd35 ct35),sl35⟩)
  (c35:codeIn K cd35 "Anew.after" = true)
  (k35:keepIn K (.ref g35)=true)
  (i35:isFn K (.ref g35)=true)
  (f36_6:findIn K (.ref C6) "after" = some (some (.ref g36)))
  (l36:K.lookup g36=some ⟨oc36,od36,.func (fnOf "after" "Copy.after" (a0p a2H) (a0k a2H) (a0g a2H) .none kV36 dc36 pm36 an36 cd36 ct36),sl36⟩)
  (c36:codeIn K cd36 "Copy.after" = true)
  (k36:keepIn K (.ref g36)=true)
  (i36:isFn K (.ref g36)=true)
  (f37_0:findIn K (.ref C0) "after" = some (some (.ref g37)))
  (f37_1:findIn K (.ref C1) "after" = some (some (.ref g37)))
  (f37_2:findIn K (.ref C2) "after" = some (some (.ref g37)))
  (f37_3:findIn K (.ref C3) "after" = some (some (.ref g37)))
  (f37_4:findIn K (.ref C4) "after" = some (some (.ref g37)))
  (f37_8:findIn K (.ref C8) "after" = some (some (.ref g37)))
  (l37:K.lookup g37=some ⟨oc37,od37,.func (fnOf "after" "Deed.after" (a0p a2G) (a0k a2G) (a0g a2G) .none kV37 dc37 pm37 an37 cd37 ct37),sl37⟩)
  (c37:codeIn K cd37 "Deed.after" = true)
  (k37:keepIn K (.ref g37)=true)
  (i37:isFn K (.ref g37)=true)
  (f38_9:findIn K (.ref C9) "after" = some (some (.ref g38)))
  (l38:K.lookup g38=some ⟨oc38,od38,.func (fnOf "after" "Grow.after" (a0p a2D) (a0k a2D) (a0g a2D) .none kV38 dc38 pm38 an38 cd38 ct38),sl38⟩)
  (c38:codeIn K cd38 "Grow.after" = true)
  (k38:keepIn K (.ref g38)=true)
  (i38:isFn K (.ref g38)=true)
  (f39_5:findIn K (.ref C5) "after" = some (some (.ref g39)))
  (l39:K.lookup g39=some ⟨oc39,od39,.func (fnOf "after" "Put.after" (a0p a3i) (a0k a3i) (a0g a3i) .none kV39 dc39 pm39 an39 cd39 ct39),sl39⟩)
  (c39:codeIn K cd39 "Put.after" = true)
  (k39:keepIn K (.ref g39)=true)
  (i39:isFn K (.ref g39)=true)
  (f40_7:findIn K (.ref C7) "after" = some (some (.ref g40)))
  (l40:K.lookup g40=some ⟨oc40,od40,.func (fnOf "after" "Tick.after" (a0p a2C) (a0k a2C) (a0g a2C) .none kV40 dc40 pm40 an40 cd40 ct40),sl40⟩)
  (c40:codeIn K cd40 "Tick.after" = true)
  (k40:keepIn K (.ref g40)=true)
  (i40:isFn K (.ref g40)=true)
  (a41:nsIn K mainGlobals "turned" = some (some (.ref g41)))
  (l41:K.lookup g41=some ⟨oc41,od41,.func (fnOf "turned" "turned" (a0p a5t) (a0k a5t) (a0g a5t) .none kV41 dc41 pm41 an41 cd41 ct41),sl41⟩)
  (c41:codeIn K cd41 "turned" = true)
  (k41:keepIn K (.ref g41)=true)
  (a42:nsIn K mainGlobals "behind" = some (some (.ref g42)))
  (l42:K.lookup g42=some ⟨oc42,od42,.func (fnOf "behind" "behind" (a0p a5z) (a0k a5z) (a0g a5z) .none kV42 dc42 pm42 an42 cd42 ct42),sl42⟩)
  (c42:codeIn K cd42 "behind" = true)
  (k42:keepIn K (.ref g42)=true)
  (a43:nsIn K mainGlobals "add_walk" = some (some (.ref g43)))
  (l43:K.lookup g43=some ⟨oc43,od43,.func (fnOf "add_walk" "add_walk" (a0p a3N) (a0k a3N) (a0g a3N) .none kV43 dc43 pm43 an43 cd43 ct43),sl43⟩)
  (c43:codeIn K cd43 "add_walk" = true)
  (k43:keepIn K (.ref g43)=true)
  (a44:nsIn K mainGlobals "starts_of" = some (some (.ref g44)))
  (l44:K.lookup g44=some ⟨oc44,od44,.func (fnOf "starts_of" "starts_of" (a0p a26) (a0k a26) (a0g a26) .none kV44 dc44 pm44 an44 cd44 ct44),sl44⟩)
  (c44:codeIn K cd44 "starts_of" = true)
  (k44:keepIn K (.ref g44)=true)
  (a45:nsIn K mainGlobals "begin" = some (some (.ref g45)))
  (l45:K.lookup g45=some ⟨oc45,od45,.func (fnOf "begin" "begin" (a0p a65) (a0k a65) (a0g a65) .none kV45 dc45 pm45 an45 cd45 ct45),sl45⟩)
  (c45:codeIn K cd45 "begin" = true)
  (k45:keepIn K (.ref g45)=true)
  (a46:nsIn K mainGlobals "table" = some (some (.ref g46)))
  (l46:K.lookup g46=some ⟨oc46,od46,.func (fnOf "table" "table" (a0p a63) (a0k a63) (a0g a63) (.ref td46) kV46 dc46 pm46 an46 cd46 ct46),sl46⟩)
  (c46:codeIn K cd46 "table" = true)
  (k46:keepIn K (.ref g46)=true)
  (t46:K.lookup td46=some ⟨tc46,te46,.seq #[.int (300) tt46] tn46,ts46⟩)
  (a47:nsIn K mainGlobals "law" = some (some (.ref g47)))
  (l47:K.lookup g47=some ⟨oc47,od47,.func (fnOf "law" "law" (a0p b2C) (a0k b2C) (a0g b2C) .none kV47 dc47 pm47 an47 cd47 ct47),sl47⟩)
  (c47:codeIn K cd47 "law" = true)
  (k47:keepIn K (.ref g47)=true)
  (na_check_10:findIn K (.ref C10) "check" = some none)
  (na_number_9:findIn K (.ref C9) "number" = some none)
  (na_numbers_5:findIn K (.ref C5) "numbers" = some none)
  (na_plan_0:findIn K (.ref C0) "plan" = some none)
  (na_plan_1:findIn K (.ref C1) "plan" = some none)
  (na_plan_2:findIn K (.ref C2) "plan" = some none)
  (na_plan_3:findIn K (.ref C3) "plan" = some none)
  (na_plan_4:findIn K (.ref C4) "plan" = some none)
  (na_plan_5:findIn K (.ref C5) "plan" = some none)
  (na_plan_6:findIn K (.ref C6) "plan" = some none)
  (na_plan_7:findIn K (.ref C7) "plan" = some none)
  (na_plan_8:findIn K (.ref C8) "plan" = some none)
  (na_plan_9:findIn K (.ref C9) "plan" = some none)
  (na_plan_10:findIn K (.ref C10) "plan" = some none)
  (na_size_9:findIn K (.ref C9) "size" = some none)
  (z_abs:nsIn K mainGlobals "abs" = some none)
  (z_all:nsIn K mainGlobals "all" = some none)
  (z_bool:nsIn K mainGlobals "bool" = some none)
  (z_int:nsIn K mainGlobals "int" = some none)
  (z_isinstance:nsIn K mainGlobals "isinstance" = some none)
  (z_len:nsIn K mainGlobals "len" = some none)
  (z_list:nsIn K mainGlobals "list" = some none)
  (z_range:nsIn K mainGlobals "range" = some none)
  (z_set:nsIn K mainGlobals "set" = some none)
  (z_sorted:nsIn K mainGlobals "sorted" = some none)
  (z_str:nsIn K mainGlobals "str" = some none)
  (z_sum:nsIn K mainGlobals "sum" = some none)
  (z_tuple:nsIn K mainGlobals "tuple" = some none):
  (∃cls,Defs K mg cls)/\Blt mg:=by
 have e_Deed:clsF [("Deed",C0),("Promise",C1),("Comparing",C2),("Untouched",C3),("Still",C4),("Put",C5),("Copy",C6),("Tick",C7),("Handed",C8),("Grow",C9),("Anew",C10)] "Deed" = C0:=a34
 have e_Promise:clsF [("Deed",C0),("Promise",C1),("Comparing",C2),("Untouched",C3),("Still",C4),("Put",C5),("Copy",C6),("Tick",C7),("Handed",C8),("Grow",C9),("Anew",C10)] "Promise" = C1:=(a0w (by decide) a34)
 have e_Comparing:clsF [("Deed",C0),("Promise",C1),("Comparing",C2),("Untouched",C3),("Still",C4),("Put",C5),("Copy",C6),("Tick",C7),("Handed",C8),("Grow",C9),("Anew",C10)] "Comparing" = C2:=(a0w (by decide) (a0w (by decide) a34))
 have e_Untouched:clsF [("Deed",C0),("Promise",C1),("Comparing",C2),("Untouched",C3),("Still",C4),("Put",C5),("Copy",C6),("Tick",C7),("Handed",C8),("Grow",C9),("Anew",C10)] "Untouched" = C3:=(a0w (by decide) (a0w (by decide) (a0w (by decide) a34)))
 have e_Still:clsF [("Deed",C0),("Promise",C1),("Comparing",C2),("Untouched",C3),("Still",C4),("Put",C5),("Copy",C6),("Tick",C7),("Handed",C8),("Grow",C9),("Anew",C10)] "Still" = C4:=(a0w (by decide) (a0w (by decide) (a0w (by decide) (a0w (by decide) a34))))
 have e_Put:clsF [("Deed",C0),("Promise",C1),("Comparing",C2),("Untouched",C3),("Still",C4),("Put",C5),("Copy",C6),("Tick",C7),("Handed",C8),("Grow",C9),("Anew",C10)] "Put" = C5:=(a0w (by decide) (a0w (by decide) (a0w (by decide) (a0w (by decide) (a0w (by decide) a34)))))
 have e_Copy:clsF [("Deed",C0),("Promise",C1),("Comparing",C2),("Untouched",C3),("Still",C4),("Put",C5),("Copy",C6),("Tick",C7),("Handed",C8),("Grow",C9),("Anew",C10)] "Copy" = C6:=(a0w (by decide) (a0w (by decide) (a0w (by decide) (a0w (by decide) (a0w (by decide) (a0w (by decide) a34))))))
 have e_Tick:clsF [("Deed",C0),("Promise",C1),("Comparing",C2),("Untouched",C3),("Still",C4),("Put",C5),("Copy",C6),("Tick",C7),("Handed",C8),("Grow",C9),("Anew",C10)] "Tick" = C7:=(a0w (by decide) (a0w (by decide) (a0w (by decide) (a0w (by decide) (a0w (by decide) (a0w (by decide) (a0w (by decide) a34)))))))
 have e_Handed:clsF [("Deed",C0),("Promise",C1),("Comparing",C2),("Untouched",C3),("Still",C4),("Put",C5),("Copy",C6),("Tick",C7),("Handed",C8),("Grow",C9),("Anew",C10)] "Handed" = C8:=(a0w (by decide) (a0w (by decide) (a0w (by decide) (a0w (by decide) (a0w (by decide) (a0w (by decide) (a0w (by decide) (a0w (by decide) a34))))))))
 have e_Grow:clsF [("Deed",C0),("Promise",C1),("Comparing",C2),("Untouched",C3),("Still",C4),("Put",C5),("Copy",C6),("Tick",C7),("Handed",C8),("Grow",C9),("Anew",C10)] "Grow" = C9:=(a0w (by decide) (a0w (by decide) (a0w (by decide) (a0w (by decide) (a0w (by decide) (a0w (by decide) (a0w (by decide) (a0w (by decide) (a0w (by decide) a34)))))))))
 have e_Anew:clsF [("Deed",C0),("Promise",C1),("Comparing",C2),("Untouched",C3),("Still",C4),("Put",C5),("Copy",C6),("Tick",C7),("Handed",C8),("Grow",C9),("Anew",C10)] "Anew" = C10:=(a0w (by decide) (a0w (by decide) (a0w (by decide) (a0w (by decide) (a0w (by decide) (a0w (by decide) (a0w (by decide) (a0w (by decide) (a0w (by decide) (a0w (by decide) a34))))))))))
 generalize clsF [("Deed",C0),("Promise",C1),("Comparing",C2),("Untouched",C3),("Still",C4),("Put",C5),("Copy",C6),("Tick",C7),("Handed",C8),("Grow",C9),("Anew",C10)]=cls at *
 exact ⟨⟨cls,⟨a09 X G a0 l0 c0 k0 fun _ _ _ _ _ _ us hl=>match us,hl with|[_,_],_=>rfl,
  a09 X G a1 l1 c1 k1 fun _ _ _ _ _ _ us hl=>match us,hl with|[_],_=>rfl,
  a09 X G a2 l2 c2 k2 fun _ _ _ _ _ _ us hl=>match us,hl with|[_,_,_],_=>rfl,
  a09 X G a3 l3 c3 k3 fun _ _ _ _ _ _ us hl=>match us,hl with|[_,_],_=>rfl,
  a09 X G a4 l4 c4 k4 fun _ _ _ _ _ _ us hl=>match us,hl with|[_,_],_=>rfl,
  a09 X G a5 l5 c5 k5 fun _ _ _ _ _ _ us hl=>match us,hl with|[_,_],_=>rfl,
  a09 X G a6 l6 c6 k6 fun _ _ _ _ _ _ us hl=>match us,hl with|[_,_],_=>rfl,
  a09 X G a7 l7 c7 k7 fun _ _ _ _ _ _ us hl=>match us,hl with|[_,_],_=>rfl,
  a09 X G a8 l8 c8 k8 fun _ _ _ _ _ _ us hl=>match us,hl with|[_],_=>rfl,
  a09 X G a9 l9 c9 k9 fun _ _ _ _ _ _ us hl=>match us,hl with|[_,_,_,_],_=>rfl,
  a09 X G a10 l10 c10 k10 fun _ _ _ _ _ _ us hl=>match us,hl with|[_,_,_,_,_,_],_=>rfl,
  a09 X G a11 l11 c11 k11 fun _ _ _ _ _ _ us hl=>match us,hl with|[_,_,_,_],_=>rfl,
  a09 X G a12 l12 c12 k12 fun _ _ _ _ _ _ us hl=>match us,hl with|[_,_],_=>rfl,
  a09 X G a13 l13 c13 k13 fun _ _ _ _ _ _ us hl=>match us,hl with|[_,_,_],_=>rfl,
  a09 X G a14 l14 c14 k14 fun _ _ _ _ _ _ us hl=>match us,hl with|[_,_],_=>rfl,
  a09 X G a15 l15 c15 k15 fun _ _ _ _ _ _ us hl=>match us,hl with|[_,_],_=>rfl,
  a2X X G e_Deed ca0 f16 l16 c16 k16 i16 m16 n16 o16 q16 r16 (fun _ _ _ _ _ _ us hl=>match us,hl with|[_,_],_=>rfl),
  a2X X G e_Handed ca8 f17 l17 c17 k17 i17 m17 n17 o17 q17 r17 (fun _ _ _ _ _ _ us hl=>match us,hl with|[_,_,_],_=>rfl),
  a2X X G e_Anew ca10 f18 l18 c18 k18 i18 m18 n18 o18 q18 r18 (fun _ _ _ _ _ _ us hl=>match us,hl with|[_,_,_,_],_=>rfl),
  a2X X G e_Promise ca1 f19 l19 c19 k19 i19 m19 n19 o19 q19 r19 (fun _ _ _ _ _ _ us hl=>match us,hl with|[_,_],_=>rfl),
  a2X X G e_Comparing ca2 f20 l20 c20 k20 i20 m20 n20 o20 q20 r20 (fun _ _ _ _ _ _ us hl=>match us,hl with|[_,_,_],_=>rfl),
  a2X X G e_Copy ca6 f21 l21 c21 k21 i21 m21 n21 o21 q21 r21 (fun _ _ _ _ _ _ us hl=>match us,hl with|[_,_,_],_=>rfl),
  a2X X G e_Grow ca9 f22 l22 c22 k22 i22 m22 n22 o22 q22 r22 (fun _ _ _ _ _ _ us hl=>match us,hl with|[_,_,_],_=>rfl),
  a2X X G e_Put ca5 f23 l23 c23 k23 i23 m23 n23 o23 q23 r23 (fun _ _ _ _ _ _ us hl=>match us,hl with|[_,_,_],_=>rfl),
  a2X X G e_Still ca4 f24 l24 c24 k24 i24 m24 n24 o24 q24 r24 (fun _ _ _ _ _ _ us hl=>match us,hl with|[_,_],_=>rfl),
  a2X X G e_Tick ca7 f25 l25 c25 k25 i25 m25 n25 o25 q25 r25 (fun _ _ _ _ _ _ us hl=>match us,hl with|[_,_],_=>rfl),
  a2X X G e_Untouched ca3 f26 l26 c26 k26 i26 m26 n26 o26 q26 r26 (fun _ _ _ _ _ _ us hl=>match us,hl with|[_],_=>rfl),
  a09 X G a27 l27 c27 k27 fun _ _ _ _ _ _ us hl=>match us,hl with|[_,_],_=>rfl,
  a09 X G a28 l28 c28 k28 fun _ _ _ _ _ _ us hl=>match us,hl with|[_,_],_=>rfl,
  a2W l29 c29 k29 i29 (fun _ _ _ _ _ _ us hl=>match us,hl with|[_,_],_=>rfl) (all_cons (by rw [e_Deed];exact ⟨⟨cp0,ch0,co0,cs0⟩,f29_0⟩) (all_cons (by rw [e_Promise];exact ⟨⟨cp1,ch1,co1,cs1⟩,f29_1⟩) (all_cons (by rw [e_Comparing];exact ⟨⟨cp2,ch2,co2,cs2⟩,f29_2⟩) (all_cons (by rw [e_Untouched];exact ⟨⟨cp3,ch3,co3,cs3⟩,f29_3⟩) (all_cons (by rw [e_Still];exact ⟨⟨cp4,ch4,co4,cs4⟩,f29_4⟩) (all_cons (by rw [e_Put];exact ⟨⟨cp5,ch5,co5,cs5⟩,f29_5⟩) (all_cons (by rw [e_Copy];exact ⟨⟨cp6,ch6,co6,cs6⟩,f29_6⟩) (all_cons (by rw [e_Tick];exact ⟨⟨cp7,ch7,co7,cs7⟩,f29_7⟩) (all_cons (by rw [e_Handed];exact ⟨⟨cp8,ch8,co8,cs8⟩,f29_8⟩) (all_cons (by rw [e_Grow];exact ⟨⟨cp9,ch9,co9,cs9⟩,f29_9⟩) (all_cons (by rw [e_Anew];exact ⟨⟨cp10,ch10,co10,cs10⟩,f29_10⟩) all_nil))))))))))),
  a2W l30 c30 k30 i30 (fun _ _ _ _ _ _ us hl=>match us,hl with|[_,_,_,_],_=>rfl) (all_cons (by rw [e_Handed];exact ⟨⟨cp8,ch8,co8,cs8⟩,f30_8⟩) (all_cons (by rw [e_Grow];exact ⟨⟨cp9,ch9,co9,cs9⟩,f30_9⟩) (all_cons (by rw [e_Anew];exact ⟨⟨cp10,ch10,co10,cs10⟩,f30_10⟩) all_nil))),
  a09 X G a31 l31 c31 k31 fun _ _ _ _ _ _ us hl=>match us,hl with|[_,_,_],_=>rfl,
  a2W l32 c32 k32 i32 (fun _ _ _ _ _ _ us hl=>match us,hl with|[_],_=>rfl) (all_cons (by rw [e_Deed];exact ⟨⟨cp0,ch0,co0,cs0⟩,f32_0⟩) (all_cons (by rw [e_Promise];exact ⟨⟨cp1,ch1,co1,cs1⟩,f32_1⟩) (all_cons (by rw [e_Comparing];exact ⟨⟨cp2,ch2,co2,cs2⟩,f32_2⟩) (all_cons (by rw [e_Untouched];exact ⟨⟨cp3,ch3,co3,cs3⟩,f32_3⟩) (all_cons (by rw [e_Still];exact ⟨⟨cp4,ch4,co4,cs4⟩,f32_4⟩) (all_cons (by rw [e_Put];exact ⟨⟨cp5,ch5,co5,cs5⟩,f32_5⟩) (all_cons (by rw [e_Copy];exact ⟨⟨cp6,ch6,co6,cs6⟩,f32_6⟩) (all_cons (by rw [e_Tick];exact ⟨⟨cp7,ch7,co7,cs7⟩,f32_7⟩) (all_cons (by rw [e_Handed];exact ⟨⟨cp8,ch8,co8,cs8⟩,f32_8⟩) (all_cons (by rw [e_Grow];exact ⟨⟨cp9,ch9,co9,cs9⟩,f32_9⟩) (all_cons (by rw [e_Anew];exact ⟨⟨cp10,ch10,co10,cs10⟩,f32_10⟩) all_nil))))))))))),
  a2W l33 c33 k33 i33 (fun _ _ _ _ _ _ us hl=>match us,hl with|[_,_],_=>rfl) (all_cons (by rw [e_Deed];exact ⟨⟨cp0,ch0,co0,cs0⟩,f33_0⟩) (all_cons (by rw [e_Promise];exact ⟨⟨cp1,ch1,co1,cs1⟩,f33_1⟩) (all_cons (by rw [e_Comparing];exact ⟨⟨cp2,ch2,co2,cs2⟩,f33_2⟩) (all_cons (by rw [e_Untouched];exact ⟨⟨cp3,ch3,co3,cs3⟩,f33_3⟩) (all_cons (by rw [e_Still];exact ⟨⟨cp4,ch4,co4,cs4⟩,f33_4⟩) (all_cons (by rw [e_Put];exact ⟨⟨cp5,ch5,co5,cs5⟩,f33_5⟩) (all_cons (by rw [e_Copy];exact ⟨⟨cp6,ch6,co6,cs6⟩,f33_6⟩) (all_cons (by rw [e_Tick];exact ⟨⟨cp7,ch7,co7,cs7⟩,f33_7⟩) (all_cons (by rw [e_Handed];exact ⟨⟨cp8,ch8,co8,cs8⟩,f33_8⟩) (all_cons (by rw [e_Grow];exact ⟨⟨cp9,ch9,co9,cs9⟩,f33_9⟩) (all_cons (by rw [e_Anew];exact ⟨⟨cp10,ch10,co10,cs10⟩,f33_10⟩) all_nil))))))))))),
  a2W l34 c34 k34 i34 (fun _ _ _ _ _ _ us hl=>match us,hl with|[_,_,_,_,_],_=>rfl) (all_cons (by rw [e_Handed];exact ⟨⟨cp8,ch8,co8,cs8⟩,f34_8⟩) (all_cons (by rw [e_Grow];exact ⟨⟨cp9,ch9,co9,cs9⟩,f34_9⟩) (all_cons (by rw [e_Anew];exact ⟨⟨cp10,ch10,co10,cs10⟩,f34_10⟩) all_nil))),
  a2W l35 c35 k35 i35 (fun _ _ _ _ _ _ us hl=>match us,hl with|[_,_,_,_],_=>rfl) (all_cons (by rw [e_Anew];exact ⟨⟨cp10,ch10,co10,cs10⟩,f35_10⟩) all_nil),
  a2W l36 c36 k36 i36 (fun _ _ _ _ _ _ us hl=>match us,hl with|[_,_,_,_],_=>rfl) (all_cons (by rw [e_Copy];exact ⟨⟨cp6,ch6,co6,cs6⟩,f36_6⟩) all_nil),
  a2W l37 c37 k37 i37 (fun _ _ _ _ _ _ us hl=>match us,hl with|[_,_,_,_],_=>rfl) (all_cons (by rw [e_Deed];exact ⟨⟨cp0,ch0,co0,cs0⟩,f37_0⟩) (all_cons (by rw [e_Promise];exact ⟨⟨cp1,ch1,co1,cs1⟩,f37_1⟩) (all_cons (by rw [e_Comparing];exact ⟨⟨cp2,ch2,co2,cs2⟩,f37_2⟩) (all_cons (by rw [e_Untouched];exact ⟨⟨cp3,ch3,co3,cs3⟩,f37_3⟩) (all_cons (by rw [e_Still];exact ⟨⟨cp4,ch4,co4,cs4⟩,f37_4⟩) (all_cons (by rw [e_Handed];exact ⟨⟨cp8,ch8,co8,cs8⟩,f37_8⟩) all_nil)))))),
  a2W l38 c38 k38 i38 (fun _ _ _ _ _ _ us hl=>match us,hl with|[_,_,_,_],_=>rfl) (all_cons (by rw [e_Grow];exact ⟨⟨cp9,ch9,co9,cs9⟩,f38_9⟩) all_nil),
  a2W l39 c39 k39 i39 (fun _ _ _ _ _ _ us hl=>match us,hl with|[_,_,_,_],_=>rfl) (all_cons (by rw [e_Put];exact ⟨⟨cp5,ch5,co5,cs5⟩,f39_5⟩) all_nil),
  a2W l40 c40 k40 i40 (fun _ _ _ _ _ _ us hl=>match us,hl with|[_,_,_,_],_=>rfl) (all_cons (by rw [e_Tick];exact ⟨⟨cp7,ch7,co7,cs7⟩,f40_7⟩) all_nil),
  a09 X G a41 l41 c41 k41 fun _ _ _ _ _ _ us hl=>match us,hl with|[_,_,_],_=>rfl,
  a09 X G a42 l42 c42 k42 fun _ _ _ _ _ _ us hl=>match us,hl with|[_,_],_=>rfl,
  a09 X G a43 l43 c43 k43 fun _ _ _ _ _ _ us hl=>match us,hl with|[_,_,_,_,_],_=>rfl,
  a09 X G a44 l44 c44 k44 fun _ _ _ _ _ _ us hl=>match us,hl with|[_],_=>rfl,
  a09 X G a45 l45 c45 k45 fun _ _ _ _ _ _ us hl=>match us,hl with|[_],_=>rfl,
  laidD_mk X G a46 l46 c46 k46 t46 (fun _ _ _ _ _ _ us hl=>match us,hl with|[_,_,_],_=>⟨_,rfl,rfl⟩) (fun _ _ _ _ _ _ us hl=>match us,hl with|[_,_],_=>⟨_,rfl,rfl⟩),
  a09 X G a47 l47 c47 k47 fun _ _ _ _ _ _ us hl=>match us,hl with|[_],_=>rfl,
  (all_cons (by rw [e_Anew];exact ⟨⟨cp10,ch10,co10,cs10⟩,na_check_10⟩) all_nil),
  (all_cons (by rw [e_Grow];exact ⟨⟨cp9,ch9,co9,cs9⟩,na_number_9⟩) all_nil),
  (all_cons (by rw [e_Put];exact ⟨⟨cp5,ch5,co5,cs5⟩,na_numbers_5⟩) all_nil),
  (all_cons (by rw [e_Deed];exact ⟨⟨cp0,ch0,co0,cs0⟩,na_plan_0⟩) (all_cons (by rw [e_Promise];exact ⟨⟨cp1,ch1,co1,cs1⟩,na_plan_1⟩) (all_cons (by rw [e_Comparing];exact ⟨⟨cp2,ch2,co2,cs2⟩,na_plan_2⟩) (all_cons (by rw [e_Untouched];exact ⟨⟨cp3,ch3,co3,cs3⟩,na_plan_3⟩) (all_cons (by rw [e_Still];exact ⟨⟨cp4,ch4,co4,cs4⟩,na_plan_4⟩) (all_cons (by rw [e_Put];exact ⟨⟨cp5,ch5,co5,cs5⟩,na_plan_5⟩) (all_cons (by rw [e_Copy];exact ⟨⟨cp6,ch6,co6,cs6⟩,na_plan_6⟩) (all_cons (by rw [e_Tick];exact ⟨⟨cp7,ch7,co7,cs7⟩,na_plan_7⟩) (all_cons (by rw [e_Handed];exact ⟨⟨cp8,ch8,co8,cs8⟩,na_plan_8⟩) (all_cons (by rw [e_Grow];exact ⟨⟨cp9,ch9,co9,cs9⟩,na_plan_9⟩) (all_cons (by rw [e_Anew];exact ⟨⟨cp10,ch10,co10,cs10⟩,na_plan_10⟩) all_nil))))))))))),
  (all_cons (by rw [e_Grow];exact ⟨⟨cp9,ch9,co9,cs9⟩,na_size_9⟩) all_nil)⟩⟩,⟨mg_none_of X G z_abs,mg_none_of X G z_all,mg_none_of X G z_bool,mg_none_of X G z_int,mg_none_of X G z_isinstance,mg_none_of X G z_len,mg_none_of X G z_list,mg_none_of X G z_range,mg_none_of X G z_set,mg_none_of X G z_sorted,mg_none_of X G z_str,mg_none_of X G z_sum,mg_none_of X G z_tuple⟩⟩
end Bell
def PySem.W.Fast.tw18134627623129742863:Unit:=()
def PySem.W.Fast.tw11950387949254355169:Unit:=()
def PySem.W.Fast.tw4282496869598276775:Unit:=()
def PySem.W.Fast.tw8638079973379488473:Unit:=()
def PySem.W.Fast.tw15384269820828582539:Unit:=()
def PySem.W.Fast.tw15038750159583438526:Unit:=()
def PySem.W.Fast.tw659563225492297000:Unit:=()
def PySem.W.Fast.tw5802931602176143076:Unit:=()
def PySem.W.Fast.tw16283141728277599512:Unit:=()
def PySem.W.Fast.tw6344867176043450598:Unit:=()
def PySem.W.Fast.tw3377629484475029488:Unit:=()
def PySem.W.Fast.tw13929342884301449953:Unit:=()
def PySem.W.Fast.tw14859132359206943096:Unit:=()
def PySem.W.Fast.tw14425038302700859524:Unit:=()
def PySem.W.Fast.tw5307299742516562709:Unit:=()
def PySem.W.Fast.tw5214293525179845981:Unit:=()
def PySem.W.Fast.tw6742949405548345544:Unit:=()
def PySem.W.Fast.tw3371939348134611070:Unit:=()
def PySem.W.Fast.tw11946714446995556379:Unit:=()
def PySem.W.Fast.tw9868413703488251879:Unit:=()
def PySem.W.Fast.tw13447853090232741405:Unit:=()
def PySem.W.Fast.tw2283011441978557954:Unit:=()
open PySem PySem.W PyProof.Rows
set_option maxRecDepth 100000 in
set_option maxHeartbeats 0 in
theorem PySem.Challenge.cw_bellnest_k63_table_without_enterings_holds : PySem.Challenge.rw_bellnest_k63_table_without_enterings.Holds := by
 w_on;o_law;k_head;(case hw=>w_witness2)
 k_fill
 refine Bell.walk (l:=PySem.Challenge.rw_bellnest_k63_table_without_enterings) Bell.law_true rfl rfl rfl (fun w h Y=>PySem.W.kIn_of Y) ?F
 case F=>
  intro w mg h KX G
  refine' Bell.defs_mk KX G ?_ ?_ ?_ ?_ ?_ ?_ ?_ ?_ ?_ ?_ ?_ ?_ ?_ ?_ ?_ ?_ ?_ ?_ ?_ ?_ ?_ ?_ ?_ ?_ ?_ ?_ ?_ ?_ ?_ ?_ ?_ ?_ ?_ ?_ ?_ ?_ ?_ ?_ ?_ ?_ ?_ ?_ ?_ ?_ ?_ ?_ ?_ ?_ ?_ ?_ ?_ ?_ ?_ ?_ ?_ ?_ ?_ ?_ ?_ ?_ ?_ ?_ ?_ ?_ ?_ ?_ ?_ ?_ ?_ ?_ ?_ ?_ ?_ ?_ ?_ ?_ ?_ ?_ ?_ ?_ ?_ ?_ ?_ ?_ ?_ ?_ ?_ ?_ ?_ ?_ ?_ ?_ ?_ ?_ ?_ ?_ ?_ ?_ ?_ ?_ ?_ ?_ ?_ ?_ ?_ ?_ ?_ ?_ ?_ ?_ ?_ ?_ ?_ ?_ ?_ ?_ ?_ ?_ ?_ ?_ ?_ ?_ ?_ ?_ ?_ ?_ ?_ ?_ ?_ ?_ ?_ ?_ ?_ ?_ ?_ ?_ ?_ ?_ ?_ ?_ ?_ ?_ ?_ ?_ ?_ ?_ ?_ ?_ ?_ ?_ ?_ ?_ ?_ ?_ ?_ ?_ ?_ ?_ ?_ ?_ ?_ ?_ ?_ ?_ ?_ ?_ ?_ ?_ ?_ ?_ ?_ ?_ ?_ ?_ ?_ ?_ ?_ ?_ ?_ ?_ ?_ ?_ ?_ ?_ ?_ ?_ ?_ ?_ ?_ ?_ ?_ ?_ ?_ ?_ ?_ ?_ ?_ ?_ ?_ ?_ ?_ ?_ ?_ ?_ ?_ ?_ ?_ ?_ ?_ ?_ ?_ ?_ ?_ ?_ ?_ ?_ ?_ ?_ ?_ ?_ ?_ ?_ ?_ ?_ ?_ ?_ ?_ ?_ ?_ ?_ ?_ ?_ ?_ ?_ ?_ ?_ ?_ ?_ ?_ ?_ ?_ ?_ ?_ ?_ ?_ ?_ ?_ ?_ ?_ ?_ ?_ ?_ ?_ ?_ ?_ ?_ ?_ ?_ ?_ ?_ ?_ ?_ ?_ ?_ ?_ ?_ ?_ ?_ ?_ ?_ ?_ ?_ ?_ ?_ ?_ ?_ ?_ ?_ ?_ ?_ ?_ ?_ ?_ ?_ ?_ ?_ ?_ ?_ ?_ ?_ ?_ ?_ ?_ ?_ ?_ ?_ ?_ ?_ ?_ ?_ ?_ ?_ ?_ ?_ ?_ ?_ ?_ ?_ ?_ ?_ ?_ ?_ ?_ ?_ ?_ ?_ ?_ ?_ ?_ ?_ ?_ ?_ ?_ ?_ ?_ ?_ ?_ ?_ ?_ ?_ ?_ ?_ ?_ ?_ ?_ ?_ ?_ ?_ ?_ ?_ ?_ ?_ ?_ ?_ ?_ ?_ ?_ ?_ ?_ ?_ ?_ ?_ ?_ ?_ ?_ ?_ ?_ ?_ ?_ ?_ ?_ ?_ ?_ ?_ ?_ ?_ ?_ ?_ ?_ ?_ ?_ ?_ ?_ ?_ ?_ ?_ ?_ ?_ ?_ ?_ ?_ ?_ ?_ ?_ ?_ ?_ ?_ ?_ ?_ ?_ ?_ ?_
  all_goals (try k_is)
